/- What the document's own answer for numbers of 64 bits computes: the bits of a number, told by halving and doubling it. What the document's own answer for numbers of 64 bits computes: the bits of a number, told by halving and doubling it. What the document's own answer for numbers of 64 bits computes, at the least numbers, at 0, at the infinite ones and at NaN; and so at every number. The document's own way from bits of 64 to a number. The document's own way from bits of 64 to the nearest bits of 32. The document's own answer for numbers of 32 bits: their bits. The document's own way from bits of 32 to a number. The document's own way from bits of 32 to a number, the least ones; and so from all bits. The package's own calls on bits, and the statement's helpers. The package's texts of numbers: what Print64 and Print32 tell. -/
import Derived.Test.YtlkhgnjljdbhnabGreatDoorRows
import Derived.Test.YtlkhgnjljdbhnabGreatDoorFl
import Derived.WalkKit
import Derived.WalkSpells
import Derived.WalkLawsBesides
import Derived.Laws.BitsAllLaws
import Derived.Lib.ItoaMem
namespace Go.Proofs.YtlkhgnjljdbhnabGreatDoor
open Go.RowKit
set_option maxRecDepth 100000
theorem unary_negf (k : FloatKind) (b : Nat) : Op.unary .neg (.float k b) = pure (.float k (Op.negFloat k b)) := rfl
attribute [local go_sem] unary_negf

theorem ari (op : BinOp) (t : TypeId) (k : FloatKind) (x y r : Nat) (h : floatBits op k x y = some r) : ∀ w, (binOp op t (.float k x) (.float k y)).run Tryz.prog w = .ok (.float k r) w :=
  fun w => run_float_arith w op t k x y r h

end Go.Proofs.YtlkhgnjljdbhnabGreatDoor
namespace Go.Proofs.YtlkhgnjljdbhnabGreatDoor
open Go.RowKit
theorem fl_eq {k : FloatKind} {a b : Nat} (h : a = b) : Value.float k a = .float k b := by rw [h]

/-- The rung of an exponent and a fraction. -/
def R (E F : Nat) : Nat := E * 4503599627370496 + F
theorem R_lt (E F : Nat) (hE : E ≤ 2046) (hF : F < 4503599627370496) : R E F < 9218868437227405312 := by unfold R; omega
theorem R_div (E F : Nat) (hF : F < 4503599627370496) : R E F / 4503599627370496 = E := by unfold R; omega
theorem R_mod (E F : Nat) (hF : F < 4503599627370496) : R E F % 4503599627370496 = F := by unfold R; omega
theorem R_ge (E F : Nat) (hE : 1 ≤ E) : 4503599627370496 ≤ R E F := by
  unfold R
  have h := Nat.mul_le_mul_right 4503599627370496 hE
  rw [Nat.one_mul] at h
  exact Nat.le_trans h (Nat.le_add_right _ _)
theorem R_succ (E F : Nat) : R (E + 1) F = R E F + 4503599627370496 := by unfold R; rw [Nat.succ_mul]; omega

theorem R_hlv (E F : Nat) (hE : E + 1 ≤ 2046) (hF : F < 4503599627370496) (h : 1 ≤ E) : floatBits .quo .f64 (R (E + 1) F) 4611686018427387904 = some (R E F) := by
  have h1 := R_lt (E + 1) F hE hF
  have h2 := R_ge E F h
  have h3 := R_succ E F
  have h := Fl.hlvR Ieee.double 4611686018427387904 Fl.two64 false (R (E + 1) F) (by rw [Fl.bi64]; omega) (by rw [Fl.inf64]; omega)
  rw [Fl.word_false, Fl.word_false, Fl.bi64, h3, Nat.add_sub_cancel] at h
  rw [h3]
  exact h
theorem R_dbl (E F : Nat) (hE : E + 1 ≤ 2046) (hF : F < 4503599627370496) (h : 1 ≤ E) : floatBits .mul .f64 (R E F) 4611686018427387904 = some (R (E + 1) F) := by
  have h1 := R_lt (E + 1) F hE hF
  have h2 := R_ge E F h
  have h3 := R_succ E F
  have h := Fl.dblR Ieee.double 4611686018427387904 Fl.two64 false (R E F) (by rw [Fl.bi64]; omega) (by rw [Fl.inf64, Fl.bi64]; omega)
  rw [Fl.word_false, Fl.word_false, Fl.bi64] at h
  rw [h3]
  exact h

theorem or64 (x y i : Nat) (hx : x < 18446744073709551616) (hm : x % 2 ^ i = 0) (hy : y < 2 ^ i) (hy' : y < 18446744073709551616) : bits .or .u64 (x : Int) (y : Int) = ((x + y : Nat) : Int) := by
  rw [u64_or_nat x y hx hy', nat_join i x y hm hy]

theorem join_neg (E F : Nat) (hE : E ≤ 2047) (hF : F < 4503599627370496) : bits .or .u64 (bits .or .u64 9223372036854775808 ((E : Int) * 4503599627370496)) (F : Int) = (Ieee.double.word true (R E F) : Nat) := by
  have e1 := or64 9223372036854775808 (E * 4503599627370496) 63 (by omega) (by decide) (Nat.lt_of_lt_of_eq (m := 9223372036854775808) (by omega) (by decide)) (by omega)
  have e2 := or64 (9223372036854775808 + E * 4503599627370496) F 52 (by omega) (by rw [show (2 : Nat) ^ 52 = 4503599627370496 from by decide]; omega) (by rw [show (2 : Nat) ^ 52 = 4503599627370496 from by decide]; omega) (by omega)
  rw [Int.natCast_mul] at e1
  have e3 : ((9223372036854775808 : Nat) : Int) = 9223372036854775808 := rfl
  have e4 : ((4503599627370496 : Nat) : Int) = 4503599627370496 := rfl
  rw [e3, e4] at e1
  rw [e1, e2, Fl.word_true, Fl.sw64, Nat.add_assoc]
  rfl

theorem join_pos (E F : Nat) (hE : E ≤ 2047) (hF : F < 4503599627370496) : bits .or .u64 (bits .or .u64 0 ((E : Int) * 4503599627370496)) (F : Int) = (Ieee.double.word false (R E F) : Nat) := by
  have e1 := or64 0 (E * 4503599627370496) 63 (by omega) (by decide) (Nat.lt_of_lt_of_eq (m := 9223372036854775808) (by omega) (by decide)) (by omega)
  have e2 := or64 (0 + E * 4503599627370496) F 52 (by omega) (by rw [show (2 : Nat) ^ 52 = 4503599627370496 from by decide]; omega) (by rw [show (2 : Nat) ^ 52 = 4503599627370496 from by decide]; omega) (by omega)
  rw [Int.natCast_mul] at e1
  have e4 : ((4503599627370496 : Nat) : Int) = 4503599627370496 := rfl
  rw [e4] at e1
  have e5 : ((0 : Nat) : Int) = 0 := rfl
  rw [e5] at e1
  rw [e1, e2, Fl.word_false, Nat.zero_add]
  rfl

end Go.Proofs.YtlkhgnjljdbhnabGreatDoor
namespace Go.Proofs.YtlkhgnjljdbhnabGreatDoor
open Go.RowKit
/-- One of the least numbers, doubled j times. -/
def S (r j : Nat) : Nat := Ieee.double.nearest false r (-1074 + (j : Int))

theorem log51 (r : Nat) (h : r < 4503599627370496) : r.log2 ≤ 51 := by
  by_cases h0 : r = 0
  · subst h0; decide
  · have := (Nat.log2_lt h0).2 (Nat.lt_of_lt_of_eq h (by decide : 4503599627370496 = 2 ^ 52)); omega
theorem lt53 (r : Nat) (h : r < 4503599627370496) : r < 2 ^ (Ieee.double.fractionBits + 1) := by
  rw [Fl.fb64]; exact Nat.lt_of_lt_of_le h (by decide)

theorem S_zero (r : Nat) (h : r < 4503599627370496) : S r 0 = r := by
  have e := Fl.nearest_parts Ieee.double false r (by rw [Fl.inf64]; omega)
  have e1 : Fl.magOf Ieee.double r = r := by unfold Fl.magOf; rw [if_pos (by rw [Fl.bi64]; exact h)]
  have e2 : Fl.placeOf Ieee.double r = -1074 := by unfold Fl.placeOf; rw [if_pos (by rw [Fl.bi64]; exact h), Fl.lp64]
  rw [e1, e2, Fl.word_false] at e
  exact e

/-- Is a number of these bits none? -/
def nan64 (x : Nat) : Bool := decide (9218868437227405312 < x % 9223372036854775808)
/-- The bits that are told. -/
def c64 (x : Nat) : Nat := if nan64 x then 9221120237041090560 else x

theorem nan64_order (x : Nat) (h : x < 18446744073709551616) : (FloatKind.f64.format.order x x != some .eq) = nan64 x := by
  obtain ⟨neg, r, hr, rfl⟩ := Fl.word_of Ieee.double x (Nat.lt_of_lt_of_eq h (by decide))
  show (Ieee.double.order _ _ != some .eq) = _
  rw [Fl.order_self Ieee.double neg r hr Fl.bi_le64, Fl.inf64]
  rw [Fl.sw64] at hr
  unfold nan64
  cases neg
  · rw [Fl.word_false, Nat.mod_eq_of_lt hr]
  · rw [Fl.word_true, Fl.sw64, Nat.add_mod_left, Nat.mod_eq_of_lt hr]

end Go.Proofs.YtlkhgnjljdbhnabGreatDoor
namespace Go.Proofs.YtlkhgnjljdbhnabGreatDoor
open Go.RowKit
attribute [local go_sem] unary_negf

/-- The NaN that the language makes of an invalid operation: some bits. -/
def nanOf (k : FloatKind) (x y : Nat) (w : World) : Nat := (Question.nanBits k x y).cut (w.tape w.drawn (.nanBits k x y))

theorem run_float_invalid (P : Program) (w : World) (op : BinOp) (ho : op = .add ∨ op = .sub ∨ op = .mul ∨ op = .quo) (t : TypeId) (k : FloatKind) (x y : Nat) (h : floatBits op k x y = none) :
    (binOp op t (.float k x) (.float k y)).run P w = .ok (.float k (nanOf k x y w)) w.drew := by
  unfold floatBits at h
  rcases ho with rfl | rfl | rfl | rfl
  all_goals
    simp only at h
    simp only [binOp, Op.floatArith, h, Go.choose, ne_eq, not_true_eq_false, if_false]
    rfl

theorem nanOf64 (x y : Nat) (w : World) : nan64 (nanOf .f64 x y w) = true ∧ nanOf .f64 x y w < 18446744073709551616 := by
  unfold nanOf Question.cut nan64
  generalize w.tape w.drawn (.nanBits .f64 x y) = t
  have h1 : t % 2 < 2 := Nat.mod_lt _ (by omega)
  have e1 : (2 : Nat) ^ 52 - 1 = 4503599627370495 := by decide
  have e2 : (2 : Nat) ^ 63 = 9223372036854775808 := by decide
  simp only [e1, e2]
  have h2 : t / 2 % 4503599627370495 < 4503599627370495 := Nat.mod_lt _ (by omega)
  have e3 : (0x7ff0000000000000 : Nat) = 9218868437227405312 := rfl
  rw [e3, decide_eq_true_eq]
  generalize t / 2 % 4503599627370495 = u at *
  generalize t % 2 = v at *
  refine ⟨?_, by omega⟩
  rcases (by omega : v = 0 ∨ v = 1) with rfl | rfl
  · rw [Nat.zero_mul, Nat.zero_add, Nat.mod_eq_of_lt (by omega)]; omega
  · rw [Nat.one_mul, Nat.add_assoc, Nat.add_assoc, Nat.add_mod_left, Nat.mod_eq_of_lt (by omega)]; omega

theorem ofInt_top (F : Nat) (hF : F < 4503599627370496) : floatOfInt .f64 ((F : Int) + 4503599627370496) = R 1075 F := by
  have e : (F : Int) + 4503599627370496 = ((4503599627370496 + F : Nat) : Int) := by omega
  have e4 : ((0 : Int) - -1074).toNat = 1074 := by decide
  have e5 : 1074 * 4503599627370496 + (4503599627370496 + F) = R 1075 F := by unfold R; omega
  have hle : R 1075 F ≤ 9218868437227405312 := Nat.le_of_lt (R_lt 1075 F (by omega) hF)
  have hn := Fl.nearest_full Ieee.double false F 0 (by rw [Fl.bi64]; exact hF) (by rw [Fl.lp64]; omega) (by rw [Fl.lp64, Fl.bi64, Fl.inf64, e4, e5]; exact hle)
  rw [Fl.word_false, Fl.lp64, Fl.bi64, e4, e5] at hn
  rw [e, Fl.ofInt64, hn]

theorem neg_false (r : Nat) (h : r < 9223372036854775808) : Op.negFloat .f64 r = Ieee.double.word true r := by
  show r ^^^ 2 ^ 63 = 2 ^ 63 + r
  exact Fl.xor_top 63 r (by omega)

/-- What stands behind the switch: the sign. -/
theorem sign_test (neg : Bool) (r : Nat) (h : r < 9223372036854775808) : (((Ieee.double.word neg r : Nat) : Int) / 9223372036854775808 == 1) = neg := by
  cases neg
  · rw [Fl.word_false, beq_eq_false_iff_ne]; omega
  · rw [Fl.word_true, Fl.sw64, beq_iff_eq]; omega

theorem ret_fl2 {k : FloatKind} {a b : Nat} {v : Value} (h : a = b) : Ending.returned (.tuple #[.float k a, v]) = .returned (.tuple #[.float k b, v]) := by rw [h]

set_option maxHeartbeats 1000000 in
theorem from64_normal_core (neg : Bool) (b : Int) (E F : Nat) (w : World) (h1 : 1 ≤ E) (hE : E ≤ 2046) (HF : F < 4503599627370496)
    (hbE : bits .and .u64 (b / 4503599627370496) 2047 = (E : Int)) (hbF : bits .and .u64 b 4503599627370495 = (F : Int)) (HS : Hid ((b / 9223372036854775808 == 1) = neg)) :
    Calls Tryz.prog 67 #[.int .u64 b] w fun e w' => e = .returned (.tuple #[.float .f64 (Ieee.double.word neg (R E F)), .int .i64 0]) ∧ w' = w := by
  have hE7 : ((E : Int) == 2047) = false := beq_eq_false_iff_ne.2 (by omega)
  go_enter Tryz.func67, Tryz.ntmps67
  go_wp2
  go_loop [6, 8] (fun f i => ∃ k : Nat, f = .float .f64 (R k F) ∧ i = .int .i64 k ∧ 1075 ≤ k ∧ (k = 1075 ∨ k ≤ E)) (fun _ i => 3000 - (intOf i).toNat)
  case atStart => exact ⟨1075, fl_eq (ofInt_top F HF), rfl, by omega, .inl rfl⟩
  case round =>
    obtain ⟨k, rfl, rfl, hk1, hk2⟩ := hrel
    by_cases hlt : k < E
    · have hd := ari .mul 57 .f64 _ _ _ (R_dbl k F (by omega) HF (by omega))
      go_wp2
      go_round
      case rel => exact ⟨k + 1, rfl, by go_num, by omega, .inr (by omega)⟩
      case measure => simp [intOf]; omega
    · have hkE : k = 1075 ∨ k = E := by omega
      have HK : Hid (k = 1075 ∨ k = E) := hkE
      clear hkE hk2
      go_wp2
      go_loop [6, 9] (fun f i => ∃ (k : Int) (l : Nat), f = .float .f64 (R l F) ∧ i = .int .i64 k ∧ (E : Int) ≤ k ∧ k ≤ 2046 ∧ ((k ≤ 1075 ∧ l + k = 1075 + E) ∨ (1075 < E ∧ k = E ∧ l = E))) (fun _ i => (3000 - intOf i).toNat)
      case atStart =>
        refine ⟨E, k, rfl, rfl, by omega, by omega, ?_⟩
        have := HK.out
        omega
      case round =>
        obtain ⟨i, l, rfl, rfl, hi1, hi3, hi2⟩ := hrel
        have HF' : Hid (F < 4503599627370496) := HF
        clear HF hbE hbF hE7 hlt HK hk1
        by_cases hc : i < 1075
        · have hlE : l + i = 1075 + E := by omega
          obtain ⟨l', rfl⟩ : ∃ l', l = l' + 1 := ⟨l - 1, by omega⟩
          have hd := ari .quo 57 .f64 _ _ _ (R_hlv l' F (by omega) HF'.out (by omega))
          have HL : Hid (((l' + 1 : Nat) : Int) + i = 1075 + E) := hlE
          clear hlE hi2
          go_wp2
          go_round
          case rel => exact ⟨i + 1, l', rfl, rfl, by omega, by omega, .inl (by have := HL.out; omega)⟩
          case measure => simp [intOf]; omega
        · obtain rfl : l = E := by omega
          clear hi2
          have hs := HS.out
          have hr : R l F < 9223372036854775808 := by have := R_lt l F hE HF'.out; omega
          have HR : Hid (R l F < 9223372036854775808) := hr
          clear HS hr
          cases neg
          · go_wp2
            go_ret2
            exact ⟨rfl, rfl⟩
          · go_wp2
            go_ret2
            exact ⟨ret_fl2 (neg_false _ HR.out), rfl⟩

/-- A whole number, halved j times. -/
def T (F : Nat) (j : Int) : Nat := Ieee.double.nearest false F (-j)

theorem T_hlv (F : Nat) (hF : F < 4503599627370496) (j : Int) (h0 : 0 ≤ j) (h : j ≤ 1074) : floatBits .quo .f64 (T F j) 4611686018427387904 = some (T F (j + 1)) := by
  show Ieee.double.div (Ieee.double.nearest false F (-j)) 4611686018427387904 = some (Ieee.double.nearest false F (-(j + 1)))
  by_cases hz : F = 0
  · subst hz
    rw [Fl.nearest_zero, Fl.nearest_zero, Fl.div_two Ieee.double _ Fl.two64 _ false 0 _ (Fl.read_zero Ieee.double false) (by decide), Fl.nearest_zero]
  · have hl := log51 F hF
    have hp : Ieee.double.leastPlace ≤ -j := by rw [Fl.lp64]; omega
    have h2 := Fl.rungOf_lt Ieee.double F (-j) hz (lt53 F hF) hp 2000 (by rw [Fl.fb64, Fl.lp64]; omega) (by omega)
    rw [Fl.bi64] at h2
    have e := Fl.hlv Ieee.double 4611686018427387904 Fl.two64 false F (-j) hz (lt53 F hF) hp (by rw [Fl.inf64]; omega)
    have e2 : -j - 1 = -(j + 1) := by omega
    rw [e2] at e
    exact e

theorem T_start (F : Nat) : floatOfInt .f64 (F : Int) = T F 0 := by
  rw [Fl.ofInt64]; rfl
theorem T_end (F : Nat) (hF : F < 4503599627370496) : T F 1074 = F := S_zero F hF

set_option maxHeartbeats 1000000 in
theorem from64_sub_core (neg : Bool) (b : Int) (F : Nat) (w : World) (HF : F < 4503599627370496)
    (hbE : bits .and .u64 (b / 4503599627370496) 2047 = 0) (hbF : bits .and .u64 b 4503599627370495 = (F : Int)) (HS : Hid ((b / 9223372036854775808 == 1) = neg)) :
    Calls Tryz.prog 67 #[.int .u64 b] w fun e w' => e = .returned (.tuple #[.float .f64 (Ieee.double.word neg F), .int .i64 0]) ∧ w' = w := by
  go_enter Tryz.func67, Tryz.ntmps67
  go_wp2
  go_loop [6, 10] (fun f i => ∃ k : Int, f = .float .f64 (T F k) ∧ i = .int .i64 k ∧ 0 ≤ k ∧ k ≤ 1074) (fun _ i => (3000 - intOf i).toNat)
  case atStart => exact ⟨0, fl_eq (T_start F), rfl, by omega, by omega⟩
  case round =>
    obtain ⟨k, rfl, rfl, hk1, hk2⟩ := hrel
    have HF' : Hid (F < 4503599627370496) := HF
    clear HF hbE hbF
    by_cases hlt : k < 1074
    · have hd := ari .quo 57 .f64 _ _ _ (T_hlv F HF'.out k hk1 hk2)
      go_wp2
      go_round
      case rel => exact ⟨k + 1, rfl, rfl, by omega, by omega⟩
      case measure => simp [intOf]; omega
    · obtain rfl : k = 1074 := by omega
      have hs := HS.out
      clear HS
      have e := T_end F HF'.out
      rw [e]
      have HE : Hid (T F 1074 = F) := e
      clear e
      cases neg
      · go_wp2
        go_ret2
        exact ⟨rfl, rfl⟩
      · go_wp2
        go_ret2
        exact ⟨ret_fl2 (neg_false _ (by have := HF'.out; omega)), rfl⟩

theorem div_one_zero : floatBits .quo .f64 4607182418800017408 0 = some 9218868437227405312 :=
  Fl.div_zero Ieee.double false 4607182418800017408 4503599627370496 (-52) (by omega) (by decide)

set_option maxHeartbeats 1000000 in
theorem from64_inf_core (neg : Bool) (b : Int) (w : World)
    (hbE : bits .and .u64 (b / 4503599627370496) 2047 = 2047) (hbF : bits .and .u64 b 4503599627370495 = 0) (hb : (b == 9221120237041090560) = false) (hs : (b / 9223372036854775808 == 1) = neg) :
    Calls Tryz.prog 67 #[.int .u64 b] w fun e w' => e = .returned (.tuple #[.float .f64 (Ieee.double.word neg 9218868437227405312), .int .i64 0]) ∧ w' = w := by
  have hd := ari .quo 57 .f64 _ _ _ div_one_zero
  cases neg
  · go_enter Tryz.func67, Tryz.ntmps67
    go_wp2
    go_ret2
    exact ⟨rfl, rfl⟩
  · go_enter Tryz.func67, Tryz.ntmps67
    go_wp2
    go_ret2
    exact ⟨ret_fl2 (neg_false _ (by omega)), rfl⟩

set_option maxHeartbeats 1000000 in
theorem from64_bad_core (b : Int) (w : World)
    (hbE : bits .and .u64 (b / 4503599627370496) 2047 = 2047) (hbF : (bits .and .u64 b 4503599627370495 != 0) = true) (hb : (b == 9221120237041090560) = false) :
    Calls Tryz.prog 67 #[.int .u64 b] w fun e w' => e = .returned (.tuple #[.float .f64 0, .int .i64 10]) ∧ w' = w := by
  go_enter Tryz.func67, Tryz.ntmps67
  go_wp2
  go_ret2
  exact ⟨rfl, rfl⟩

theorem inv_zero : floatBits .quo .f64 0 0 = none := by decide

set_option maxHeartbeats 1000000 in
theorem from64_nan_core (b : Int) (w : World) (hbE : bits .and .u64 (b / 4503599627370496) 2047 = 2047) (hb : (b == 9221120237041090560) = true) :
    Calls Tryz.prog 67 #[.int .u64 b] w fun e w' => e = .returned (.tuple #[.float .f64 (nanOf .f64 0 0 w), .int .i64 0]) ∧ w' = w.drew := by
  have hd := fun w => run_float_invalid Tryz.prog w .quo (.inr (.inr (.inr rfl))) 57 .f64 0 0 inv_zero
  go_enter Tryz.func67, Tryz.ntmps67
  go_wp2
  go_ret2
  exact ⟨rfl, rfl⟩

/-! The fields of bits of 64. -/
theorem fields64 (neg : Bool) (E F : Nat) (hE : E ≤ 2047) (hF : F < 4503599627370496) :
    bits .and .u64 ((Ieee.double.word neg (R E F) : Nat) / 4503599627370496) 2047 = (E : Int) ∧ bits .and .u64 (Ieee.double.word neg (R E F) : Nat) 4503599627370495 = (F : Int) ∧ (((Ieee.double.word neg (R E F) : Nat) : Int) / 9223372036854775808 == 1) = neg := by
  have hr : R E F < 9223372036854775808 := by unfold R; omega
  refine ⟨?_, ?_, sign_test neg (R E F) hr⟩
  · have hq : (Ieee.double.word neg (R E F)) / 4503599627370496 % 2048 = E ∧ (Ieee.double.word neg (R E F)) / 4503599627370496 < 4096 := by
      cases neg
      · rw [Fl.word_false, R_div E F hF]; omega
      · rw [Fl.word_true, Fl.sw64]
        have : (9223372036854775808 + R E F) / 4503599627370496 = 2048 + E := by unfold R; omega
        rw [this]; omega
    have e := u64_and_nat ((Ieee.double.word neg (R E F)) / 4503599627370496) 2047 (by omega) (by omega)
    rw [nat_mask11, hq.1] at e
    rw [← e]
    rfl
  · have hq : (Ieee.double.word neg (R E F)) % 4503599627370496 = F ∧ Ieee.double.word neg (R E F) < 18446744073709551616 := by
      cases neg
      · rw [Fl.word_false, R_mod E F hF]; omega
      · rw [Fl.word_true, Fl.sw64]
        have : (9223372036854775808 + R E F) % 4503599627370496 = F := by unfold R; omega
        rw [this]; omega
    have e := u64_and_nat (Ieee.double.word neg (R E F)) 4503599627370495 hq.2 (by omega)
    have e2 : Ieee.double.word neg (R E F) &&& 4503599627370495 = Ieee.double.word neg (R E F) % 4503599627370496 := Nat.and_two_pow_sub_one_eq_mod _ 52
    rw [e2, hq.1] at e
    rw [← e]
    rfl

theorem split64 (n : Nat) (h : n < 18446744073709551616) : ∃ neg E F, E ≤ 2047 ∧ F < 4503599627370496 ∧ n = Ieee.double.word neg (R E F) ∧ nan64 n = (E == 2047 && F != 0) := by
  obtain ⟨neg, r, hr, rfl⟩ := Fl.word_of Ieee.double n (Nat.lt_of_lt_of_eq h (by decide))
  rw [Fl.sw64] at hr
  have e : r = R (r / 4503599627370496) (r % 4503599627370496) := by unfold R; omega
  refine ⟨neg, r / 4503599627370496, r % 4503599627370496, by omega, by omega, by rw [← e], ?_⟩
  have hm : Ieee.double.word neg r % 9223372036854775808 = r := by
    cases neg
    · rw [Fl.word_false, Nat.mod_eq_of_lt hr]
    · rw [Fl.word_true, Fl.sw64, Nat.add_mod_left, Nat.mod_eq_of_lt hr]
  unfold nan64
  rw [hm, Bool.eq_iff_iff]
  simp only [decide_eq_true_eq, Bool.and_eq_true, beq_iff_eq, bne_iff_ne]
  omega

/-- The document's way from bits: what it tells. -/
theorem from64_ok (n : Nat) (w : World) (h : n < 18446744073709551616) (hn : nan64 n = false) :
    Calls Tryz.prog 67 #[.int .u64 n] w fun e w' => e = .returned (.tuple #[.float .f64 n, .int .i64 0]) ∧ w' = w := by
  obtain ⟨neg, E, F, hE, hF, rfl, hx⟩ := split64 n h
  obtain ⟨f1, f2, f3⟩ := fields64 neg E F hE hF
  rw [hn] at hx
  by_cases h7 : E = 2047
  · subst h7
    have hF0 : F = 0 := by simpa using hx
    subst hF0
    have e : R 2047 0 = 9218868437227405312 := by decide
    rw [e] at f1 f2 f3 ⊢
    exact from64_inf_core neg _ w f1 f2 (by rw [beq_eq_false_iff_ne]; cases neg <;> decide) f3
  · by_cases h0 : E = 0
    · subst h0
      have e : R 0 F = F := by unfold R; omega
      rw [e] at f1 f2 f3 ⊢
      exact from64_sub_core neg _ F w hF f1 f2 f3
    · exact from64_normal_core neg _ E F w (by omega) (by omega) hF f1 f2 f3

theorem from64_nan (w : World) :
    Calls Tryz.prog 67 #[.int .u64 9221120237041090560] w fun e w' => (∃ y, nan64 y = true ∧ y < 18446744073709551616 ∧ e = .returned (.tuple #[.float .f64 y, .int .i64 0])) ∧ w' = w.drewN 1 :=
  (from64_nan_core 9221120237041090560 w (by decide) (by decide)).mono fun _e _w' ⟨h1, h2⟩ => ⟨⟨_, (nanOf64 0 0 w).1, (nanOf64 0 0 w).2, h1⟩, h2⟩

theorem from64_bad (n : Nat) (w : World) (h : n < 18446744073709551616) (hn : nan64 n = true) (hb : n ≠ 9221120237041090560) :
    Calls Tryz.prog 67 #[.int .u64 n] w fun e w' => e = .returned (.tuple #[.float .f64 0, .int .i64 10]) ∧ w' = w := by
  obtain ⟨neg, E, F, hE, hF, rfl, hx⟩ := split64 n h
  obtain ⟨f1, f2, f3⟩ := fields64 neg E F hE hF
  rw [hn] at hx
  have hx' : E = 2047 ∧ F ≠ 0 := by simpa using hx.symm
  obtain ⟨rfl, hF0⟩ := hx'
  refine from64_bad_core _ w f1 ?_ ?_
  · rw [f2, bne_iff_ne]
    intro e
    exact hF0 (Int.natCast_inj.1 e)
  · rw [beq_eq_false_iff_ne]
    intro e
    exact hb (Int.natCast_inj.1 e)


end Go.Proofs.YtlkhgnjljdbhnabGreatDoor
namespace Go.Proofs.YtlkhgnjljdbhnabGreatDoor
open Go.RowKit
def sgn (neg : Bool) : Int := if neg then 1 else 0
end Go.Proofs.YtlkhgnjljdbhnabGreatDoor
namespace Go.Proofs.YtlkhgnjljdbhnabGreatDoor
open Go.RowKit
/-- The NaN that a conversion makes: some bits. -/
def nanConvOf (k : FloatKind) (x : Nat) (w : World) : Nat := (Question.nanConv k x).cut (w.tape w.drawn (.nanConv k x))

/-- Is a number of these bits of 32 none? -/
def nan32 (x : Nat) : Bool := decide (2139095040 < x % 2147483648)
def c32 (x : Nat) : Nat := if nan32 x then 2143289344 else x

theorem nanConv32 (x : Nat) (w : World) : nan32 (nanConvOf .f32 x w) = true ∧ nanConvOf .f32 x w < 4294967296 := by
  unfold nanConvOf Question.cut nan32
  generalize w.tape w.drawn (.nanConv .f32 x) = t
  have h1 : t % 2 < 2 := Nat.mod_lt _ (by omega)
  have e1 : (2 : Nat) ^ 23 - 1 = 8388607 := by decide
  have e2 : (2 : Nat) ^ 31 = 2147483648 := by decide
  simp only [e1, e2]
  have h2 : t / 2 % 8388607 < 8388607 := Nat.mod_lt _ (by omega)
  have e3 : (0x7f800000 : Nat) = 2139095040 := rfl
  rw [e3, decide_eq_true_eq]
  generalize t / 2 % 8388607 = u at *
  generalize t % 2 = v at *
  refine ⟨?_, by omega⟩
  rcases (by omega : v = 0 ∨ v = 1) with rfl | rfl
  · rw [Nat.zero_mul, Nat.zero_add, Nat.mod_eq_of_lt (by omega)]; omega
  · rw [Nat.one_mul, Nat.add_assoc, Nat.add_assoc, Nat.add_mod_left, Nat.mod_eq_of_lt (by omega)]; omega

theorem nanBits32 (x y : Nat) (w : World) : nan32 (nanOf .f32 x y w) = true ∧ nanOf .f32 x y w < 4294967296 := by
  unfold nanOf Question.cut nan32
  generalize w.tape w.drawn (.nanBits .f32 x y) = t
  have h1 : t % 2 < 2 := Nat.mod_lt _ (by omega)
  have e1 : (2 : Nat) ^ 23 - 1 = 8388607 := by decide
  have e2 : (2 : Nat) ^ 31 = 2147483648 := by decide
  simp only [e1, e2]
  have h2 : t / 2 % 8388607 < 8388607 := Nat.mod_lt _ (by omega)
  have e3 : (0x7f800000 : Nat) = 2139095040 := rfl
  rw [e3, decide_eq_true_eq]
  generalize t / 2 % 8388607 = u at *
  generalize t % 2 = v at *
  refine ⟨?_, by omega⟩
  rcases (by omega : v = 0 ∨ v = 1) with rfl | rfl
  · rw [Nat.zero_mul, Nat.zero_add, Nat.mod_eq_of_lt (by omega)]; omega
  · rw [Nat.one_mul, Nat.add_assoc, Nat.add_assoc, Nat.add_mod_left, Nat.mod_eq_of_lt (by omega)]; omega

theorem run_conv_nan (P : Program) (w : World) (src dst : TypeId) (s k : FloatKind) (b : Nat) (hs : (P.underlying src).isSome = true) (hd : P.underlying dst = some (.float k)) (hsk : s ≠ k) (neg : Bool) (fr : Nat) (h : s.decode b = .nan neg fr) :
    (convert src dst (.float s b)).run P w = .ok (.float k (nanConvOf k b w)) w.drew := by
  obtain ⟨u, hs'⟩ := Option.isSome_iff_exists.1 hs
  have e : (Conv.floatToFloat s b k).run P w = .ok (.float k (nanConvOf k b w)) w.drew := by
    unfold Conv.floatToFloat
    rw [if_neg hsk, h]
    rfl
  cases u <;> simp [convert, run_underlying hs', run_underlying hd, e]

theorem c64_num (x : Nat) (h : nan64 x = false) : c64 x = x := by unfold c64; rw [h]; rfl
theorem c64_nan (x : Nat) (h : nan64 x = true) : c64 x = 9221120237041090560 := by unfold c64; rw [h]; rfl

theorem word64_lt (neg : Bool) (r : Nat) (h : r ≤ 9218868437227405312) : Ieee.double.word neg r < 18446744073709551616 ∧ nan64 (Ieee.double.word neg r) = false := by
  unfold nan64
  cases neg
  · rw [Fl.word_false]; simp; omega
  · rw [Fl.word_true, Fl.sw64, Nat.add_mod_left]; simp; omega

theorem split32 (x : Nat) (h : x < 4294967296) : ∃ neg r, r < 2147483648 ∧ x = Ieee.single.word neg r ∧ nan32 x = decide (2139095040 < r) := by
  obtain ⟨neg, r, hr, rfl⟩ := Fl.word_of Ieee.single x (Nat.lt_of_lt_of_eq h (by decide))
  rw [Fl.sw32] at hr
  refine ⟨neg, r, hr, rfl, ?_⟩
  unfold nan32
  cases neg
  · rw [Fl.word_false, Nat.mod_eq_of_lt hr]
  · rw [Fl.word_true, Fl.sw32, Nat.add_mod_left, Nat.mod_eq_of_lt hr]

end Go.Proofs.YtlkhgnjljdbhnabGreatDoor
namespace Go.Proofs.YtlkhgnjljdbhnabGreatDoor
open Go.RowKit
attribute [local go_sem] unary_negf

def s64 (neg : Bool) : Int := if neg then 9223372036854775808 else 0
theorem sgn_s64 (neg : Bool) : sgn neg * 9223372036854775808 = s64 neg := by cases neg <;> decide

set_option maxHeartbeats 400000 in
theorem from32_bad_core (neg : Bool) (b F : Int) (w : World) (hbE : bits .and .u32 (b / 8388608) 255 = 255) (hbF : bits .and .u32 b 8388607 = F) (hsg : b / 2147483648 = sgn neg) (hF0 : 0 ≤ F) (hF1 : F < 8388608) (hF : (F != 0) = true) (hb : (b == 2143289344) = false) :
    Calls Tryz.prog 64 #[.int .u32 b] w fun e w' => e = .returned (.tuple #[.float .f32 0, .int .i64 10]) ∧ w' = w := by
  have hs0 : 0 ≤ sgn neg := by cases neg <;> decide
  have hs1 : sgn neg ≤ 1 := by cases neg <;> decide
  go_enter Tryz.func64, Tryz.ntmps64
  go_wp2
  go_ret2
  exact ⟨rfl, rfl⟩

theorem read_nan64 (x : Nat) (h : x < 18446744073709551616) (hn : nan64 x = true) : ∃ neg fr, FloatKind.f64.decode x = .nan neg fr := by
  obtain ⟨neg, r, hr, rfl⟩ := Fl.word_of Ieee.double x (Nat.lt_of_lt_of_eq h (by decide))
  have hr2 := hr
  rw [Fl.sw64] at hr
  have hx : 9218868437227405312 < r := by
    unfold nan64 at hn
    rw [decide_eq_true_eq] at hn
    cases neg
    · rw [Fl.word_false, Nat.mod_eq_of_lt hr] at hn; exact hn
    · rw [Fl.word_true, Fl.sw64, Nat.add_mod_left, Nat.mod_eq_of_lt hr] at hn; exact hn
  exact ⟨neg, _, Fl.read_nan Ieee.double neg r hr2 Fl.bi_le64 (by rw [Fl.inf64]; exact hx)⟩

set_option maxHeartbeats 400000 in
theorem from32_nan_core (b F : Int) (w : World) (hbE : bits .and .u32 (b / 8388608) 255 = 255) (hbF : bits .and .u32 b 8388607 = F) (hsg : b / 2147483648 = 0) (hF0 : 0 ≤ F) (hF1 : F < 8388608) (hb : (b == 2143289344) = true) :
    Calls Tryz.prog 64 #[.int .u32 b] w fun e w' => ∃ z, nan32 z = true ∧ z < 4294967296 ∧ e = .returned (.tuple #[.float .f32 z, .int .i64 0]) ∧ ∃ k, w' = w.drewN k := by
  go_enter Tryz.func64, Tryz.ntmps64
  go_wp2_with fail
  refine (from64_nan _).mono ?_
  rintro e w' ⟨⟨y, hy1, hy2, rfl⟩, rfl⟩
  obtain ⟨neg, fr, hd⟩ := read_nan64 y hy2 hy1
  have hc := fun w => run_conv_nan Tryz.prog w 57 43 .f64 .f32 y (by kernel_rfl) Tryz.underlying43 (by decide) neg fr hd
  have HV : Hid (∀ w, nan32 (nanConvOf .f32 y w) = true ∧ nanConvOf .f32 y w < 4294967296) := fun w => nanConv32 y w
  clear hd hy1 hy2
  go_wp2
  go_ret2
  exact ⟨_, (HV.out _).1, (HV.out _).2, rfl, 2, rfl⟩

theorem narrow_conv_inf (neg : Bool) : floatToFloatBits .f64 (Ieee.double.word neg 9218868437227405312) .f32 = some (Ieee.single.word neg 2139095040) := by
  cases neg <;> decide

theorem or_inf (neg : Bool) : bits .or .u64 (s64 neg) 9218868437227405312 = ((Ieee.double.word neg 9218868437227405312 : Nat) : Int) := by
  cases neg <;> decide

set_option maxHeartbeats 400000 in
theorem from32_inf_core (neg : Bool) (b : Int) (w : World) (hbE : bits .and .u32 (b / 8388608) 255 = 255) (hbF : bits .and .u32 b 8388607 = 0) (hsg : b / 2147483648 = sgn neg) (hb : (b == 2143289344) = false) :
    Calls Tryz.prog 64 #[.int .u32 b] w fun e w' => e = .returned (.tuple #[.float .f32 (Ieee.single.word neg 2139095040), .int .i64 0]) ∧ w' = w := by
  have hs0 : 0 ≤ sgn neg := by cases neg <;> decide
  have hs1 : sgn neg ≤ 1 := by cases neg <;> decide
  have hw := word64_lt neg 9218868437227405312 (by omega)
  have HF : Hid (∀ w, Calls Tryz.prog 67 #[.int .u64 (Ieee.double.word neg 9218868437227405312 : Nat)] w fun e w' => e = .returned (.tuple #[.float .f64 (Ieee.double.word neg 9218868437227405312), .int .i64 0]) ∧ w' = w) := fun w => from64_ok _ w hw.1 hw.2
  have hc := fun w => run_convert_float_float (P := Tryz.prog) w 57 43 .f64 .f32 _ _ (by kernel_rfl) Tryz.underlying43 (narrow_conv_inf neg)
  have ho : Hid (bits .or .u64 (s64 neg) 9218868437227405312 = ((Ieee.double.word neg 9218868437227405312 : Nat) : Int)) := or_inf neg
  clear hw
  go_enter Tryz.func64, Tryz.ntmps64
  go_wp2_with fail
  rw [sgn_s64, ho.out]
  refine (HF.out _).mono ?_
  rintro e w' ⟨rfl, rfl⟩
  go_wp2
  go_ret2
  exact ⟨rfl, rfl⟩

theorem lim32 (E F : Nat) (hE : E ≤ 254) (hF : F < 8388608) : E * 8388608 + F < 2139095040 := by omega

/-- A narrow full number, told by the wide one's bits. -/
theorem narrow_conv (neg : Bool) (E F : Nat) (h1 : 1 ≤ E) (hE : E ≤ 254) (hF : F < 8388608) : floatToFloatBits .f64 (Ieee.double.word neg (R (E + 896) (F * 536870912))) .f32 = some (Ieee.single.word neg (E * 8388608 + F)) := by
  have hF2 : F * 536870912 < 4503599627370496 := by omega
  have e4 : (E - 1) * 8388608 + (8388608 + F) = E * 8388608 + F := by
    obtain ⟨E', rfl⟩ : ∃ E', E = E' + 1 := ⟨E - 1, by omega⟩
    rw [Nat.add_sub_cancel, Nat.succ_mul, Nat.add_assoc]
  have hlim2 := lim32 E F hE hF
  have hlim : (E - 1) * 8388608 + (8388608 + F) ≤ 2139095040 := by rw [e4]; exact Nat.le_of_lt hlim2
  have hd : FloatKind.f64.decode (Ieee.double.word neg (R (E + 896) (F * 536870912))) = .number neg (4503599627370496 + F * 536870912) (-1074 + ((E + 896 - 1 : Nat) : Int)) := by
    have hr := Fl.read_number Ieee.double neg (R (E + 896) (F * 536870912)) (by rw [Fl.inf64]; exact R_lt _ _ (by omega) hF2)
    have hge := R_ge (E + 896) (F * 536870912) (by omega)
    rw [Fl.magOf_full _ _ (by rw [Fl.bi64]; exact hge), Fl.placeOf_full _ _ (by rw [Fl.bi64]; exact hge), Fl.bi64, Fl.lp64, R_div _ _ hF2, R_mod _ _ hF2] at hr
    exact hr
  have hn : Ieee.single.nearest neg (4503599627370496 + F * 536870912) (-1074 + ((E + 896 - 1 : Nat) : Int)) = Ieee.single.word neg (E * 8388608 + F) := by
    have e1 : 4503599627370496 + F * 536870912 = (8388608 + F) * 2 ^ 29 := by
      rw [show (2 : Nat) ^ 29 = 536870912 from by decide]; omega
    rw [e1, Fl.nearest_shift Ieee.single neg (8388608 + F) 29 _ (by omega)]
    have e2 : -1074 + ((E + 896 - 1 : Nat) : Int) + ((29 : Nat) : Int) = (E : Int) - 150 := by omega
    rw [e2]
    have e3 : ((E : Int) - 150 - -149).toNat = E - 1 := by omega
    have hf := Fl.nearest_full Ieee.single neg F ((E : Int) - 150) (by rw [Fl.bi32]; exact hF) (by rw [Fl.lp32]; omega) (by rw [Fl.lp32, Fl.bi32, Fl.inf32, e3]; exact hlim)
    rw [Fl.lp32, Fl.bi32, e3] at hf
    rw [hf]
    rw [e4]
  have hinf : (Ieee.single.read (Ieee.single.word neg (E * 8388608 + F))).isInfinity = false := by
    rw [Fl.read_number Ieee.single neg _ (by rw [Fl.inf32]; exact hlim2)]; rfl
  unfold floatToFloatBits
  rw [if_neg (by decide), hd]
  show (if (Ieee.single.read (Ieee.single.nearest neg (4503599627370496 + F * 536870912) (-1074 + ((E + 896 - 1 : Nat) : Int)))).isInfinity = true then none else some (Ieee.single.nearest neg (4503599627370496 + F * 536870912) (-1074 + ((E + 896 - 1 : Nat) : Int)))) = _
  rw [hn, hinf]
  rfl

theorem or_full (neg : Bool) (E F : Nat) (hE : E ≤ 2046) (hF : F < 4503599627370496) : bits .or .u64 (bits .or .u64 (s64 neg) ((E : Int) * 4503599627370496)) (F : Int) = ((Ieee.double.word neg (R E F) : Nat) : Int) := by
  cases neg
  · exact join_pos E F (by omega) hF
  · exact join_neg E F (by omega) hF

set_option maxHeartbeats 400000 in
theorem from32_full_core (neg : Bool) (b : Int) (E F : Nat) (w : World) (h1 : 1 ≤ E) (hE : E ≤ 254) (hF : F < 8388608) (hbE : bits .and .u32 (b / 8388608) 255 = (E : Int)) (hbF : bits .and .u32 b 8388607 = (F : Int)) (hsg : b / 2147483648 = sgn neg) :
    Calls Tryz.prog 64 #[.int .u32 b] w fun e w' => e = .returned (.tuple #[.float .f32 (Ieee.single.word neg (E * 8388608 + F)), .int .i64 0]) ∧ w' = w := by
  have hs0 : 0 ≤ sgn neg := by cases neg <;> decide
  have hs1 : sgn neg ≤ 1 := by cases neg <;> decide
  have hF2 : F * 536870912 < 4503599627370496 := by omega
  have hw := word64_lt neg (R (E + 896) (F * 536870912)) (Nat.le_of_lt (R_lt _ _ (by omega) hF2))
  have HF : Hid (∀ w, Calls Tryz.prog 67 #[.int .u64 (Ieee.double.word neg (R (E + 896) (F * 536870912)) : Nat)] w fun e w' => e = .returned (.tuple #[.float .f64 (Ieee.double.word neg (R (E + 896) (F * 536870912))), .int .i64 0]) ∧ w' = w) := fun w => from64_ok _ w hw.1 hw.2
  have hc := fun w => run_convert_float_float (P := Tryz.prog) w 57 43 .f64 .f32 _ _ (by kernel_rfl) Tryz.underlying43 (narrow_conv neg E F h1 hE hF)
  have ho1 := or_full neg (E + 896) (F * 536870912) (by omega) hF2
  have e1 : (((E + 896 : Nat) : Int)) = (E : Int) + 896 := by omega
  have e2 : (((F * 536870912 : Nat) : Int)) = (F : Int) * 536870912 := by omega
  rw [e1, e2] at ho1
  have ho : Hid (bits .or .u64 (bits .or .u64 (s64 neg) (((E : Int) + 896) * 4503599627370496)) ((F : Int) * 536870912) = ((Ieee.double.word neg (R (E + 896) (F * 536870912)) : Nat) : Int)) := ho1
  have hE7 : ((E : Int) == 255) = false := beq_eq_false_iff_ne.2 (by omega)
  obtain ⟨Fi, HFi⟩ : ∃ Fi : Int, Hid (Fi = (F : Int)) := ⟨_, rfl⟩
  have hFi0 : 0 ≤ Fi := by have := HFi.out; omega
  have hFi1 : Fi < 8388608 := by have := HFi.out; omega
  rw [← HFi.out] at hbF
  obtain ⟨Ei, HEi⟩ : ∃ Ei : Int, Hid (Ei = (E : Int)) := ⟨_, rfl⟩
  have hEi0 : 0 < Ei := by have := HEi.out; omega
  have hEi1 : Ei ≤ 254 := by have := HEi.out; omega
  rw [← HEi.out] at hbE hE7
  clear hw ho1 e1 e2 hF2 hF hE h1
  go_enter Tryz.func64, Tryz.ntmps64
  go_wp2_with fail
  rw [sgn_s64, HFi.out, HEi.out, ho.out]
  refine (HF.out _).mono ?_
  rintro e w' ⟨rfl, rfl⟩
  go_wp2
  go_ret2
  exact ⟨rfl, rfl⟩


end Go.Proofs.YtlkhgnjljdbhnabGreatDoor
namespace Go.Proofs.YtlkhgnjljdbhnabGreatDoor
open Go.RowKit
attribute [local go_sem] unary_negf

/-- A whole number, halved j times, among the narrow ones. -/
def T32 (F : Nat) (j : Int) : Nat := Ieee.single.nearest false F (-j)

theorem lt24 (F : Nat) (h : F < 8388608) : F < 2 ^ (Ieee.single.fractionBits + 1) := Nat.lt_of_lt_of_le h (by decide)
theorem log22 (F : Nat) (h : F < 8388608) : F.log2 ≤ 22 := by
  by_cases h0 : F = 0
  · subst h0; decide
  · have := (Nat.log2_lt h0).2 (Nat.lt_of_lt_of_eq h (by decide : 8388608 = 2 ^ 23)); omega

theorem T32_hlv (F : Nat) (hF : F < 8388608) (j : Int) (h0 : 0 ≤ j) (h : j ≤ 149) : floatBits .quo .f32 (T32 F j) 1073741824 = some (T32 F (j + 1)) := by
  show Ieee.single.div (Ieee.single.nearest false F (-j)) 1073741824 = some (Ieee.single.nearest false F (-(j + 1)))
  by_cases hz : F = 0
  · subst hz
    rw [Fl.nearest_zero, Fl.nearest_zero, Fl.div_two Ieee.single _ Fl.two32 _ false 0 _ (Fl.read_zero Ieee.single false) (by decide), Fl.nearest_zero]
  · have hl := log22 F hF
    have hp : Ieee.single.leastPlace ≤ -j := by rw [Fl.lp32]; omega
    have h2 := Fl.rungOf_lt Ieee.single F (-j) hz (lt24 F hF) hp 200 (by rw [Fl.fb32, Fl.lp32]; omega) (by omega)
    rw [Fl.bi32] at h2
    have e := Fl.hlv Ieee.single 1073741824 Fl.two32 false F (-j) hz (lt24 F hF) hp (by rw [Fl.inf32]; omega)
    have e2 : -j - 1 = -(j + 1) := by omega
    rw [e2] at e
    exact e

theorem T32_start (F : Nat) : floatOfInt .f32 (F : Int) = T32 F 0 := by
  rw [Fl.ofInt32]; rfl
theorem T32_end (F : Nat) (h : F < 8388608) : T32 F 149 = F := by
  have e := Fl.nearest_parts Ieee.single false F (by rw [Fl.inf32]; omega)
  have e1 : Fl.magOf Ieee.single F = F := by unfold Fl.magOf; rw [if_pos (by rw [Fl.bi32]; exact h)]
  have e2 : Fl.placeOf Ieee.single F = -149 := by unfold Fl.placeOf; rw [if_pos (by rw [Fl.bi32]; exact h), Fl.lp32]
  rw [e1, e2, Fl.word_false] at e
  exact e

theorem neg_false32 (r : Nat) (h : r < 2147483648) : Op.negFloat .f32 r = Ieee.single.word true r := by
  show r ^^^ 2 ^ 31 = 2 ^ 31 + r
  exact Fl.xor_top 31 r (by omega)

set_option maxHeartbeats 1000000 in
theorem from32_sub_core (neg : Bool) (b : Int) (F : Nat) (w : World) (HF : F < 8388608) (hbE : bits .and .u32 (b / 8388608) 255 = 0) (hbF : bits .and .u32 b 8388607 = (F : Int)) (hsg : b / 2147483648 = sgn neg) :
    Calls Tryz.prog 64 #[.int .u32 b] w fun e w' => e = .returned (.tuple #[.float .f32 (Ieee.single.word neg F), .int .i64 0]) ∧ w' = w := by
  have hs0 : 0 ≤ sgn neg := by cases neg <;> decide
  have hs1 : sgn neg ≤ 1 := by cases neg <;> decide
  have HF' : Hid (F < 8388608) := HF
  obtain ⟨Fi, HFi⟩ : ∃ Fi : Int, Hid (Fi = (F : Int)) := ⟨_, rfl⟩
  have hFi0 : 0 ≤ Fi := by have := HFi.out; omega
  have hFi1 : Fi < 8388608 := by have := HFi.out; omega
  rw [← HFi.out] at hbF
  clear HF
  go_enter Tryz.func64, Tryz.ntmps64
  go_wp2
  go_loop [13, 14] (fun f i => ∃ k : Int, f = .float .f32 (T32 F k) ∧ i = .int .i64 k ∧ 0 ≤ k ∧ k ≤ 149) (fun _ i => (3000 - intOf i).toNat)
  case atStart => exact ⟨0, fl_eq (by rw [HFi.out]; exact T32_start F), rfl, by omega, by omega⟩
  case round =>
    obtain ⟨k, rfl, rfl, hk1, hk2⟩ := hrel
    clear hbE hbF
    by_cases hlt : k < 149
    · have hd := ari .quo 43 .f32 _ _ _ (T32_hlv F HF'.out k hk1 hk2)
      go_wp2
      go_round
      case rel => exact ⟨k + 1, rfl, rfl, by omega, by omega⟩
      case measure => simp [intOf]; omega
    · obtain rfl : k = 149 := by omega
      have e := T32_end F HF'.out
      rw [e]
      have HE : Hid (T32 F 149 = F) := e
      clear e
      cases neg
      · have hst : sgn false * 9223372036854775808 ≤ 0 := by decide
        go_wp2
        go_ret2
        exact ⟨rfl, rfl⟩
      · have hst : 0 < sgn true * 9223372036854775808 := by decide
        go_wp2
        go_ret2
        exact ⟨ret_fl2 (neg_false32 _ (by have := HF'.out; omega)), rfl⟩

/-! The fields of bits of 32. -/
theorem fields32 (neg : Bool) (E F : Nat) (hE : E ≤ 255) (hF : F < 8388608) :
    bits .and .u32 ((Ieee.single.word neg (E * 8388608 + F) : Nat) / 8388608) 255 = (E : Int) ∧ bits .and .u32 (Ieee.single.word neg (E * 8388608 + F) : Nat) 8388607 = (F : Int) ∧ ((Ieee.single.word neg (E * 8388608 + F) : Nat) : Int) / 2147483648 = sgn neg := by
  have hr : E * 8388608 + F < 2147483648 := by omega
  have hd : (E * 8388608 + F) / 8388608 = E := by omega
  have hm : (E * 8388608 + F) % 8388608 = F := by omega
  generalize E * 8388608 + F = r at *
  refine ⟨?_, ?_, ?_⟩
  · have hq : (Ieee.single.word neg r) / 8388608 % 256 = E ∧ (Ieee.single.word neg r) / 8388608 < 512 := by
      cases neg
      · rw [Fl.word_false]; omega
      · rw [Fl.word_true, Fl.sw32]; omega
    have e := u32_and_nat ((Ieee.single.word neg r) / 8388608) 255 (by omega) (by omega)
    rw [nat_mask8, hq.1] at e
    rw [← e]
    rfl
  · have hq : (Ieee.single.word neg r) % 8388608 = F ∧ Ieee.single.word neg r < 4294967296 := by
      cases neg
      · rw [Fl.word_false]; omega
      · rw [Fl.word_true, Fl.sw32]; omega
    have e := u32_and_nat (Ieee.single.word neg r) 8388607 hq.2 (by omega)
    have e2 : Ieee.single.word neg r &&& 8388607 = Ieee.single.word neg r % 8388608 := Nat.and_two_pow_sub_one_eq_mod _ 23
    rw [e2, hq.1] at e
    rw [← e]
    rfl
  · cases neg
    · rw [Fl.word_false]; show _ = (0 : Int); omega
    · rw [Fl.word_true, Fl.sw32]; show _ = (1 : Int); omega

theorem parts32 (n : Nat) (h : n < 4294967296) : ∃ neg E F, E ≤ 255 ∧ F < 8388608 ∧ n = Ieee.single.word neg (E * 8388608 + F) ∧ nan32 n = (E == 255 && F != 0) := by
  obtain ⟨neg, r, hr, rfl, hx⟩ := split32 n h
  have e : r = r / 8388608 * 8388608 + r % 8388608 := by omega
  refine ⟨neg, r / 8388608, r % 8388608, by omega, by omega, by rw [← e], ?_⟩
  rw [hx, Bool.eq_iff_iff]
  simp only [decide_eq_true_eq, Bool.and_eq_true, beq_iff_eq, bne_iff_ne]
  omega

theorem from32_ok (n : Nat) (w : World) (h : n < 4294967296) (hn : nan32 n = false) :
    Calls Tryz.prog 64 #[.int .u32 n] w fun e w' => e = .returned (.tuple #[.float .f32 n, .int .i64 0]) ∧ w' = w := by
  obtain ⟨neg, E, F, hE, hF, rfl, hx⟩ := parts32 n h
  obtain ⟨f1, f2, f3⟩ := fields32 neg E F hE hF
  rw [hn] at hx
  by_cases h7 : E = 255
  · subst h7
    have hF0 : F = 0 := by simpa using hx
    subst hF0
    refine from32_inf_core neg _ w f1 f2 f3 ?_
    rw [beq_eq_false_iff_ne]; cases neg <;> decide
  · by_cases h0 : E = 0
    · subst h0
      have e : 0 * 8388608 + F = F := by omega
      rw [e] at f1 f2 f3 ⊢
      exact from32_sub_core neg _ F w hF f1 f2 f3
    · exact from32_full_core neg _ E F w (by omega) (by omega) hF f1 f2 f3

theorem from32_nan (w : World) :
    Calls Tryz.prog 64 #[.int .u32 2143289344] w fun e w' => ∃ z, nan32 z = true ∧ z < 4294967296 ∧ e = .returned (.tuple #[.float .f32 z, .int .i64 0]) ∧ ∃ k, w' = w.drewN k :=
  from32_nan_core 2143289344 4194304 w (by decide) (by decide) (by decide) (by decide) (by decide) (by decide)

theorem from32_bad (n : Nat) (w : World) (h : n < 4294967296) (hn : nan32 n = true) (hb : n ≠ 2143289344) :
    Calls Tryz.prog 64 #[.int .u32 n] w fun e w' => e = .returned (.tuple #[.float .f32 0, .int .i64 10]) ∧ w' = w := by
  obtain ⟨neg, E, F, hE, hF, rfl, hx⟩ := parts32 n h
  obtain ⟨f1, f2, f3⟩ := fields32 neg E F hE hF
  rw [hn] at hx
  have hx' : E = 255 ∧ F ≠ 0 := by simpa using hx.symm
  obtain ⟨rfl, hF0⟩ := hx'
  refine from32_bad_core neg _ (F : Int) w f1 f2 f3 (by omega) (by omega) ?_ ?_
  · rw [bne_iff_ne]
    intro e
    exact hF0 (Int.natCast_inj.1 e)
  · rw [beq_eq_false_iff_ne]
    intro e
    exact hb (Int.natCast_inj.1 e)


end Go.Proofs.YtlkhgnjljdbhnabGreatDoor
namespace Go.Proofs.YtlkhgnjljdbhnabGreatDoor
open Go.RowKit
attribute [local go_sem] unary_negf

theorem x35 (n : Int) (w : World) : (callFunc 78 #[.int .u64 n]).run Tryz.prog w = .ok (.value (.float .f64 n.toNat)) w := by kernel_rfl
theorem x36 (n : Int) (w : World) : (callFunc 77 #[.int .u32 n]).run Tryz.prog w = .ok (.value (.float .f32 n.toNat)) w := by kernel_rfl
theorem x40 (x : Nat) (w : World) : (callFunc 79 #[.float .f64 x]).run Tryz.prog w = .ok (.value (.int .u64 x)) w := by kernel_rfl
theorem x41 (x : Nat) (w : World) : (callFunc 75 #[.float .f32 x]).run Tryz.prog w = .ok (.value (.int .u32 x)) w := by kernel_rfl
attribute [local go_sem] x35 x36 x40 x41

theorem nan32_order (x : Nat) (h : x < 4294967296) : (FloatKind.f32.format.order x x != some .eq) = nan32 x := by
  obtain ⟨neg, r, hr, rfl, hx⟩ := split32 x h
  show (Ieee.single.order _ _ != some .eq) = _
  rw [Fl.order_self Ieee.single neg r (by rw [Fl.sw32]; exact hr) Fl.bi_le32, Fl.inf32, hx]

set_option maxHeartbeats 400000 in
theorem rbits64_nan (x : Nat) (w : World) (h : (FloatKind.f64.format.order x x != some .eq) = true) :
    Calls Tryz.prog 66 #[.float .f64 x] w fun e w' => e = .returned (.int .u64 9221120237041090560) ∧ w' = w := by
  go_enter Tryz.func66, Tryz.ntmps66
  go_wp2
  go_ret
  exact ⟨rfl, rfl⟩
set_option maxHeartbeats 400000 in
theorem rbits64_num (x : Nat) (w : World) (h : (FloatKind.f64.format.order x x != some .eq) = false) :
    Calls Tryz.prog 66 #[.float .f64 x] w fun e w' => e = .returned (.int .u64 x) ∧ w' = w := by
  go_enter Tryz.func66, Tryz.ntmps66
  go_wp2
  go_ret
  exact ⟨rfl, rfl⟩
theorem rbits64 (x : Nat) (w : World) (h : x < 18446744073709551616) :
    Calls Tryz.prog 66 #[.float .f64 x] w fun e w' => e = .returned (.int .u64 (c64 x)) ∧ w' = w := by
  have hn := nan64_order x h
  cases hx : nan64 x with
  | true => rw [hx] at hn; rw [c64_nan x hx]; exact rbits64_nan x w hn
  | false => rw [hx] at hn; rw [c64_num x hx]; exact rbits64_num x w hn

set_option maxHeartbeats 400000 in
theorem rbits32_nan (x : Nat) (w : World) (h : (FloatKind.f32.format.order x x != some .eq) = true) :
    Calls Tryz.prog 54 #[.float .f32 x] w fun e w' => e = .returned (.int .u32 2143289344) ∧ w' = w := by
  go_enter Tryz.func54, Tryz.ntmps54
  go_wp2
  go_ret
  exact ⟨rfl, rfl⟩
set_option maxHeartbeats 400000 in
theorem rbits32_num (x : Nat) (w : World) (h : (FloatKind.f32.format.order x x != some .eq) = false) :
    Calls Tryz.prog 54 #[.float .f32 x] w fun e w' => e = .returned (.int .u32 x) ∧ w' = w := by
  go_enter Tryz.func54, Tryz.ntmps54
  go_wp2
  go_ret
  exact ⟨rfl, rfl⟩
theorem c32_nan (x : Nat) (h : nan32 x = true) : c32 x = 2143289344 := by unfold c32; rw [h]; rfl
theorem c32_num (x : Nat) (h : nan32 x = false) : c32 x = x := by unfold c32; rw [h]; rfl
theorem rbits32 (x : Nat) (w : World) (h : x < 4294967296) :
    Calls Tryz.prog 54 #[.float .f32 x] w fun e w' => e = .returned (.int .u32 (c32 x)) ∧ w' = w := by
  have hn := nan32_order x h
  cases hx : nan32 x with
  | true => rw [hx] at hn; rw [c32_nan x hx]; exact rbits32_nan x w hn
  | false => rw [hx] at hn; rw [c32_num x hx]; exact rbits32_num x w hn

theorem andNot64 (n : Nat) (h : n < 18446744073709551616) : bits .andNot .u64 (n : Int) 9223372036854775808 = ((n % 9223372036854775808 : Nat) : Int) := by
  have e := u64_andNot_nat n 9223372036854775808 h (by omega)
  have e2 : n &&& (18446744073709551615 - 9223372036854775808) = n % 9223372036854775808 := Nat.and_two_pow_sub_one_eq_mod n 63
  rw [e2] at e
  exact e
theorem andNot32 (n : Nat) (h : n < 4294967296) : bits .andNot .u32 (n : Int) 2147483648 = ((n % 2147483648 : Nat) : Int) := by
  have e := u32_andNot_nat n 2147483648 h (by omega)
  have e2 : n &&& (4294967295 - 2147483648) = n % 2147483648 := Nat.and_two_pow_sub_one_eq_mod n 31
  rw [e2] at e
  exact e

set_option maxHeartbeats 400000 in
theorem rfrom64_core (b c : Int) (w : World) (hc : bits .andNot .u64 b 9223372036854775808 = c) (h : c ≤ 9218868437227405312 ∨ (b != 9221120237041090560) = false) :
    Calls Tryz.prog 65 #[.int .u64 b] w fun e w' => e = .returned (.tuple #[.float .f64 b.toNat, .int .i64 0]) ∧ w' = w := by
  rcases h with h | h
  · go_enter Tryz.func65, Tryz.ntmps65
    go_wp2
    go_ret2
    exact ⟨rfl, rfl⟩
  · by_cases h2 : 9218868437227405312 < c
    · go_enter Tryz.func65, Tryz.ntmps65
      go_wp2
      go_ret2
      exact ⟨rfl, rfl⟩
    · have h3 : c ≤ 9218868437227405312 := by omega
      go_enter Tryz.func65, Tryz.ntmps65
      go_wp2
      go_ret2
      exact ⟨rfl, rfl⟩
set_option maxHeartbeats 400000 in
theorem rfrom64_bad_core (b c : Int) (w : World) (hc : bits .andNot .u64 b 9223372036854775808 = c) (h : 9218868437227405312 < c) (h2 : (b != 9221120237041090560) = true) :
    Calls Tryz.prog 65 #[.int .u64 b] w fun e w' => e = .returned (.tuple #[.float .f64 0, .int .i64 10]) ∧ w' = w := by
  go_enter Tryz.func65, Tryz.ntmps65
  go_wp2
  go_ret2
  exact ⟨rfl, rfl⟩
set_option maxHeartbeats 400000 in
theorem rfrom32_core (b c : Int) (w : World) (hc : bits .andNot .u32 b 2147483648 = c) (h : c ≤ 2139095040 ∨ (b != 2143289344) = false) :
    Calls Tryz.prog 63 #[.int .u32 b] w fun e w' => e = .returned (.tuple #[.float .f32 b.toNat, .int .i64 0]) ∧ w' = w := by
  rcases h with h | h
  · go_enter Tryz.func63, Tryz.ntmps63
    go_wp2
    go_ret2
    exact ⟨rfl, rfl⟩
  · by_cases h2 : 2139095040 < c
    · go_enter Tryz.func63, Tryz.ntmps63
      go_wp2
      go_ret2
      exact ⟨rfl, rfl⟩
    · have h3 : c ≤ 2139095040 := by omega
      go_enter Tryz.func63, Tryz.ntmps63
      go_wp2
      go_ret2
      exact ⟨rfl, rfl⟩
set_option maxHeartbeats 400000 in
theorem rfrom32_bad_core (b c : Int) (w : World) (hc : bits .andNot .u32 b 2147483648 = c) (h : 2139095040 < c) (h2 : (b != 2143289344) = true) :
    Calls Tryz.prog 63 #[.int .u32 b] w fun e w' => e = .returned (.tuple #[.float .f32 0, .int .i64 10]) ∧ w' = w := by
  go_enter Tryz.func63, Tryz.ntmps63
  go_wp2
  go_ret2
  exact ⟨rfl, rfl⟩

/-- From64: the number of these bits. -/
theorem rfrom64_ok (n : Nat) (w : World) (h : n < 18446744073709551616) (hn : nan64 n = false ∨ n = 9221120237041090560) :
    Calls Tryz.prog 65 #[.int .u64 n] w fun e w' => e = .returned (.tuple #[.float .f64 n, .int .i64 0]) ∧ w' = w := by
  refine rfrom64_core n _ w (andNot64 n h) ?_
  rcases hn with hn | hn
  · left
    unfold nan64 at hn
    rw [decide_eq_false_iff_not] at hn
    omega
  · right; subst hn; decide
theorem rfrom64_bad (n : Nat) (w : World) (h : n < 18446744073709551616) (hn : nan64 n = true) (hb : n ≠ 9221120237041090560) :
    Calls Tryz.prog 65 #[.int .u64 n] w fun e w' => e = .returned (.tuple #[.float .f64 0, .int .i64 10]) ∧ w' = w := by
  refine rfrom64_bad_core n _ w (andNot64 n h) ?_ ?_
  · unfold nan64 at hn
    rw [decide_eq_true_eq] at hn
    omega
  · rw [bne_iff_ne]; intro e; exact hb (Int.natCast_inj.1 e)
theorem rfrom32_ok (n : Nat) (w : World) (h : n < 4294967296) (hn : nan32 n = false ∨ n = 2143289344) :
    Calls Tryz.prog 63 #[.int .u32 n] w fun e w' => e = .returned (.tuple #[.float .f32 n, .int .i64 0]) ∧ w' = w := by
  refine rfrom32_core n _ w (andNot32 n h) ?_
  rcases hn with hn | hn
  · left
    unfold nan32 at hn
    rw [decide_eq_false_iff_not] at hn
    omega
  · right; subst hn; decide
theorem rfrom32_bad (n : Nat) (w : World) (h : n < 4294967296) (hn : nan32 n = true) (hb : n ≠ 2143289344) :
    Calls Tryz.prog 63 #[.int .u32 n] w fun e w' => e = .returned (.tuple #[.float .f32 0, .int .i64 10]) ∧ w' = w := by
  refine rfrom32_bad_core n _ w (andNot32 n h) ?_ ?_
  · unfold nan32 at hn
    rw [decide_eq_true_eq] at hn
    omega
  · rw [bne_iff_ne]; intro e; exact hb (Int.natCast_inj.1 e)

set_option maxHeartbeats 400000 in
theorem rsame64 (x y : Nat) (w : World) (hx : x < 18446744073709551616) (hy : y < 18446744073709551616) :
    Calls Tryz.prog 35 #[.float .f64 x, .float .f64 y] w fun e w' => e = .returned (.bool ((c64 x : Int) == (c64 y : Int))) ∧ w' = w := by
  have HX : Hid (x < 18446744073709551616) := hx
  have HY : Hid (y < 18446744073709551616) := hy
  clear hx hy
  go_enter Tryz.func35, Tryz.ntmps35
  go_wp2_with fail
  refine (rbits64 x _ HX.out).mono ?_
  rintro e w' ⟨rfl, rfl⟩
  go_wp2_with fail
  refine (rbits64 y _ HY.out).mono ?_
  rintro e w' ⟨rfl, rfl⟩
  go_wp2
  go_ret
  exact ⟨rfl, rfl⟩
set_option maxHeartbeats 400000 in
theorem rsame32 (x y : Nat) (w : World) (hx : x < 4294967296) (hy : y < 4294967296) :
    Calls Tryz.prog 32 #[.float .f32 x, .float .f32 y] w fun e w' => e = .returned (.bool ((c32 x : Int) == (c32 y : Int))) ∧ w' = w := by
  have HX : Hid (x < 4294967296) := hx
  have HY : Hid (y < 4294967296) := hy
  clear hx hy
  go_enter Tryz.func32, Tryz.ntmps32
  go_wp2_with fail
  refine (rbits32 x _ HX.out).mono ?_
  rintro e w' ⟨rfl, rfl⟩
  go_wp2_with fail
  refine (rbits32 y _ HY.out).mono ?_
  rintro e w' ⟨rfl, rfl⟩
  go_wp2
  go_ret
  exact ⟨rfl, rfl⟩
end Go.Proofs.YtlkhgnjljdbhnabGreatDoor
namespace Go.Proofs.YtlkhgnjljdbhnabGreatDoor
open Go.RowKit
/-- The text of some bytes. -/
def B (l : List UInt8) : Value := .string ⟨l.toArray⟩
end Go.Proofs.YtlkhgnjljdbhnabGreatDoor
