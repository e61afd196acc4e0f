/- The document's own way from bits of 64 to a number. -/
import Derived.Test.YthnnmgiihpdblaaDoorW4
namespace Go.Proofs.YthnnmgiihpdblaaDoor
open Go.RowKit
attribute [local go_sem] unary_negf

/-- The NaN that the language makes of an invalid operation: some bits. -/
def nanOf (k : FloatKind) (x y : Nat) (w : World) : Nat := (Question.nanBits k x y).cut (w.tape w.drawn (.nanBits k x y))

theorem run_float_invalid (P : Program) (w : World) (op : BinOp) (ho : op = .add ∨ op = .sub ∨ op = .mul ∨ op = .quo) (t : TypeId) (k : FloatKind) (x y : Nat) (h : floatBits op k x y = none) :
    (binOp op t (.float k x) (.float k y)).run P w = .ok (.float k (nanOf k x y w)) w.drew := by
  unfold floatBits at h
  rcases ho with rfl | rfl | rfl | rfl
  all_goals
    simp only at h
    simp only [binOp, Op.floatArith, h, Go.choose, ne_eq, not_true_eq_false, if_false]
    rfl

theorem nanOf64 (x y : Nat) (w : World) : nan64 (nanOf .f64 x y w) = true ∧ nanOf .f64 x y w < 18446744073709551616 := by
  unfold nanOf Question.cut nan64
  generalize w.tape w.drawn (.nanBits .f64 x y) = t
  have h1 : t % 2 < 2 := Nat.mod_lt _ (by omega)
  have e1 : (2 : Nat) ^ 52 - 1 = 4503599627370495 := by decide
  have e2 : (2 : Nat) ^ 63 = 9223372036854775808 := by decide
  simp only [e1, e2]
  have h2 : t / 2 % 4503599627370495 < 4503599627370495 := Nat.mod_lt _ (by omega)
  have e3 : (0x7ff0000000000000 : Nat) = 9218868437227405312 := rfl
  rw [e3, decide_eq_true_eq]
  generalize t / 2 % 4503599627370495 = u at *
  generalize t % 2 = v at *
  refine ⟨?_, by omega⟩
  rcases (by omega : v = 0 ∨ v = 1) with rfl | rfl
  · rw [Nat.zero_mul, Nat.zero_add, Nat.mod_eq_of_lt (by omega)]; omega
  · rw [Nat.one_mul, Nat.add_assoc, Nat.add_assoc, Nat.add_mod_left, Nat.mod_eq_of_lt (by omega)]; omega

theorem ofInt_top (F : Nat) (hF : F < 4503599627370496) : floatOfInt .f64 ((F : Int) + 4503599627370496) = R 1075 F := by
  have e : (F : Int) + 4503599627370496 = ((4503599627370496 + F : Nat) : Int) := by omega
  have e4 : ((0 : Int) - -1074).toNat = 1074 := by decide
  have e5 : 1074 * 4503599627370496 + (4503599627370496 + F) = R 1075 F := by unfold R; omega
  have hle : R 1075 F ≤ 9218868437227405312 := Nat.le_of_lt (R_lt 1075 F (by omega) hF)
  have hn := Fl.nearest_full Ieee.double false F 0 (by rw [Fl.bi64]; exact hF) (by rw [Fl.lp64]; omega) (by rw [Fl.lp64, Fl.bi64, Fl.inf64, e4, e5]; exact hle)
  rw [Fl.word_false, Fl.lp64, Fl.bi64, e4, e5] at hn
  rw [e, Fl.ofInt64, hn]

theorem neg_false (r : Nat) (h : r < 9223372036854775808) : Op.negFloat .f64 r = Ieee.double.word true r := by
  show r ^^^ 2 ^ 63 = 2 ^ 63 + r
  exact Fl.xor_top 63 r (by omega)

/-- What stands behind the switch: the sign. -/
theorem sign_test (neg : Bool) (r : Nat) (h : r < 9223372036854775808) : (((Ieee.double.word neg r : Nat) : Int) / 9223372036854775808 == 1) = neg := by
  cases neg
  · rw [Fl.word_false, beq_eq_false_iff_ne]; omega
  · rw [Fl.word_true, Fl.sw64, beq_iff_eq]; omega

theorem shr63 (b : Int) (w : World) : (binOp .shr 30 (.int .u64 b) (.int .u64 63)).run Tryd.prog w = .ok (.int .u64 (b / 9223372036854775808)) w := by
  rw [binOp_shr, shift_shr .u64 .u64 b 63 (by omega) (by decide)]
  rfl

theorem ret_fl2 {k : FloatKind} {a b : Nat} {v : Value} (h : a = b) : Ending.returned (.tuple #[.float k a, v]) = .returned (.tuple #[.float k b, v]) := by rw [h]

theorem unary_top (r : Nat) (h : r < 9223372036854775808) : Op.unary .neg (.float .f64 r) = pure (.float .f64 (Ieee.double.word true r)) := by
  rw [unary_negf, neg_false r h]

set_option maxHeartbeats 1000000 in
theorem from64_normal_core (neg : Bool) (b : Int) (E F : Nat) (w : World) (h1 : 1 ≤ E) (hE : E ≤ 2046) (HF : F < 4503599627370496)
    (hbE : bits .and .u64 (b / 4503599627370496) 2047 = (E : Int)) (hbF : bits .and .u64 b 4503599627370495 = (F : Int)) (HS : Hid ((b / 9223372036854775808 == 1) = neg)) :
    Calls Tryd.prog 13 #[.int .u64 b] w fun e w' => e = .returned (.tuple #[.float .f64 (Ieee.double.word neg (R E F)), .int .i64 0]) ∧ w' = w := by
  have hE7 : ((E : Int) == 2047) = false := beq_eq_false_iff_ne.2 (by omega)
  go_enter Tryd.func13, Tryd.ntmps13
  go_wp2
  go_loop [6, 8] (fun f i => ∃ k : Nat, f = .float .f64 (R k F) ∧ i = .int .i64 k ∧ 1075 ≤ k ∧ (k = 1075 ∨ k ≤ E)) (fun _ i => 3000 - (intOf i).toNat)
  case atStart => exact ⟨1075, fl_eq (ofInt_top F HF), rfl, by omega, .inl rfl⟩
  case round =>
    obtain ⟨k, rfl, rfl, hk1, hk2⟩ := hrel
    by_cases hlt : k < E
    · have hd := ari .mul 23 .f64 _ _ _ (R_dbl k F (by omega) HF (by omega))
      go_wp2
      go_round
      case rel => exact ⟨k + 1, rfl, by go_num, by omega, .inr (by omega)⟩
      case measure => simp [intOf]; omega
    · have hkE : k = 1075 ∨ k = E := by omega
      have HK : Hid (k = 1075 ∨ k = E) := hkE
      clear hkE hk2
      go_wp2
      go_loop [6, 9] (fun f i => ∃ (k : Int) (l : Nat), f = .float .f64 (R l F) ∧ i = .int .i64 k ∧ (E : Int) ≤ k ∧ k ≤ 2046 ∧ ((k ≤ 1075 ∧ l + k = 1075 + E) ∨ (1075 < E ∧ k = E ∧ l = E))) (fun _ i => (3000 - intOf i).toNat)
      case atStart =>
        refine ⟨E, k, rfl, rfl, by omega, by omega, ?_⟩
        have := HK.out
        omega
      case round =>
        obtain ⟨i, l, rfl, rfl, hi1, hi3, hi2⟩ := hrel
        have HF' : Hid (F < 4503599627370496) := HF
        clear HF hbE hbF hE7 hlt HK hk1
        by_cases hc : i < 1075
        · have hlE : l + i = 1075 + E := by omega
          obtain ⟨l', rfl⟩ : ∃ l', l = l' + 1 := ⟨l - 1, by omega⟩
          have hd := ari .quo 23 .f64 _ _ _ (R_hlv l' F (by omega) HF'.out (by omega))
          have HL : Hid (((l' + 1 : Nat) : Int) + i = 1075 + E) := hlE
          clear hlE hi2
          go_wp2
          go_round
          case rel => exact ⟨i + 1, l', rfl, rfl, by omega, by omega, .inl (by have := HL.out; omega)⟩
          case measure => simp [intOf]; omega
        · obtain rfl : l = E := by omega
          clear hi2
          have hs := HS.out
          have hr : R l F < 9223372036854775808 := by have := R_lt l F hE HF'.out; omega
          have HR : Hid (R l F < 9223372036854775808) := hr
          clear HS hr
          cases neg
          · go_wp2
            go_ret2
            exact ⟨rfl, rfl⟩
          · go_wp2
            go_ret2
            exact ⟨ret_fl2 (neg_false _ HR.out), rfl⟩

/-- A whole number, halved j times. -/
def T (F : Nat) (j : Int) : Nat := Ieee.double.nearest false F (-j)

theorem T_hlv (F : Nat) (hF : F < 4503599627370496) (j : Int) (h0 : 0 ≤ j) (h : j ≤ 1074) : floatBits .quo .f64 (T F j) 4611686018427387904 = some (T F (j + 1)) := by
  show Ieee.double.div (Ieee.double.nearest false F (-j)) 4611686018427387904 = some (Ieee.double.nearest false F (-(j + 1)))
  by_cases hz : F = 0
  · subst hz
    rw [Fl.nearest_zero, Fl.nearest_zero, Fl.div_two Ieee.double _ Fl.two64 _ false 0 _ (Fl.read_zero Ieee.double false) (by decide), Fl.nearest_zero]
  · have hl := log51 F hF
    have hp : Ieee.double.leastPlace ≤ -j := by rw [Fl.lp64]; omega
    have h2 := Fl.rungOf_lt Ieee.double F (-j) hz (lt53 F hF) hp 2000 (by rw [Fl.fb64, Fl.lp64]; omega) (by omega)
    rw [Fl.bi64] at h2
    have e := Fl.hlv Ieee.double 4611686018427387904 Fl.two64 false F (-j) hz (lt53 F hF) hp (by rw [Fl.inf64]; omega)
    have e2 : -j - 1 = -(j + 1) := by omega
    rw [e2] at e
    exact e

theorem T_start (F : Nat) : floatOfInt .f64 (F : Int) = T F 0 := by
  rw [Fl.ofInt64]; rfl
theorem T_end (F : Nat) (hF : F < 4503599627370496) : T F 1074 = F := S_zero F hF

set_option maxHeartbeats 1000000 in
theorem from64_sub_core (neg : Bool) (b : Int) (F : Nat) (w : World) (HF : F < 4503599627370496)
    (hbE : bits .and .u64 (b / 4503599627370496) 2047 = 0) (hbF : bits .and .u64 b 4503599627370495 = (F : Int)) (HS : Hid ((b / 9223372036854775808 == 1) = neg)) :
    Calls Tryd.prog 13 #[.int .u64 b] w fun e w' => e = .returned (.tuple #[.float .f64 (Ieee.double.word neg F), .int .i64 0]) ∧ w' = w := by
  go_enter Tryd.func13, Tryd.ntmps13
  go_wp2
  go_loop [6, 10] (fun f i => ∃ k : Int, f = .float .f64 (T F k) ∧ i = .int .i64 k ∧ 0 ≤ k ∧ k ≤ 1074) (fun _ i => (3000 - intOf i).toNat)
  case atStart => exact ⟨0, fl_eq (T_start F), rfl, by omega, by omega⟩
  case round =>
    obtain ⟨k, rfl, rfl, hk1, hk2⟩ := hrel
    have HF' : Hid (F < 4503599627370496) := HF
    clear HF hbE hbF
    by_cases hlt : k < 1074
    · have hd := ari .quo 23 .f64 _ _ _ (T_hlv F HF'.out k hk1 hk2)
      go_wp2
      go_round
      case rel => exact ⟨k + 1, rfl, rfl, by omega, by omega⟩
      case measure => simp [intOf]; omega
    · obtain rfl : k = 1074 := by omega
      have hs := HS.out
      clear HS
      have e := T_end F HF'.out
      rw [e]
      have HE : Hid (T F 1074 = F) := e
      clear e
      cases neg
      · go_wp2
        go_ret2
        exact ⟨rfl, rfl⟩
      · go_wp2
        go_ret2
        exact ⟨ret_fl2 (neg_false _ (by have := HF'.out; omega)), rfl⟩

theorem div_one_zero : floatBits .quo .f64 4607182418800017408 0 = some 9218868437227405312 :=
  Fl.div_zero Ieee.double false 4607182418800017408 4503599627370496 (-52) (by omega) (by decide)

set_option maxHeartbeats 1000000 in
theorem from64_inf_core (neg : Bool) (b : Int) (w : World)
    (hbE : bits .and .u64 (b / 4503599627370496) 2047 = 2047) (hbF : bits .and .u64 b 4503599627370495 = 0) (hb : (b == 9221120237041090560) = false) (hs : (b / 9223372036854775808 == 1) = neg) :
    Calls Tryd.prog 13 #[.int .u64 b] w fun e w' => e = .returned (.tuple #[.float .f64 (Ieee.double.word neg 9218868437227405312), .int .i64 0]) ∧ w' = w := by
  have hd := ari .quo 23 .f64 _ _ _ div_one_zero
  cases neg
  · go_enter Tryd.func13, Tryd.ntmps13
    go_wp2
    go_ret2
    exact ⟨rfl, rfl⟩
  · go_enter Tryd.func13, Tryd.ntmps13
    go_wp2
    go_ret2
    exact ⟨ret_fl2 (neg_false _ (by omega)), rfl⟩

set_option maxHeartbeats 1000000 in
theorem from64_bad_core (b : Int) (w : World)
    (hbE : bits .and .u64 (b / 4503599627370496) 2047 = 2047) (hbF : (bits .and .u64 b 4503599627370495 != 0) = true) (hb : (b == 9221120237041090560) = false) :
    Calls Tryd.prog 13 #[.int .u64 b] w fun e w' => e = .returned (.tuple #[.float .f64 0, .int .i64 10]) ∧ w' = w := by
  go_enter Tryd.func13, Tryd.ntmps13
  go_wp2
  go_ret2
  exact ⟨rfl, rfl⟩

theorem inv_zero : floatBits .quo .f64 0 0 = none := by decide

set_option maxHeartbeats 1000000 in
theorem from64_nan_core (b : Int) (w : World) (hbE : bits .and .u64 (b / 4503599627370496) 2047 = 2047) (hb : (b == 9221120237041090560) = true) :
    Calls Tryd.prog 13 #[.int .u64 b] w fun e w' => e = .returned (.tuple #[.float .f64 (nanOf .f64 0 0 w), .int .i64 0]) ∧ w' = w.drew := by
  have hd := fun w => run_float_invalid Tryd.prog w .quo (.inr (.inr (.inr rfl))) 23 .f64 0 0 inv_zero
  go_enter Tryd.func13, Tryd.ntmps13
  go_wp2
  go_ret2
  exact ⟨rfl, rfl⟩

/-! The fields of bits of 64. -/
theorem fields64 (neg : Bool) (E F : Nat) (hE : E ≤ 2047) (hF : F < 4503599627370496) :
    bits .and .u64 ((Ieee.double.word neg (R E F) : Nat) / 4503599627370496) 2047 = (E : Int) ∧ bits .and .u64 (Ieee.double.word neg (R E F) : Nat) 4503599627370495 = (F : Int) ∧ (((Ieee.double.word neg (R E F) : Nat) : Int) / 9223372036854775808 == 1) = neg := by
  have hr : R E F < 9223372036854775808 := by unfold R; omega
  refine ⟨?_, ?_, sign_test neg (R E F) hr⟩
  · have hq : (Ieee.double.word neg (R E F)) / 4503599627370496 % 2048 = E ∧ (Ieee.double.word neg (R E F)) / 4503599627370496 < 4096 := by
      cases neg
      · rw [Fl.word_false, R_div E F hF]; omega
      · rw [Fl.word_true, Fl.sw64]
        have : (9223372036854775808 + R E F) / 4503599627370496 = 2048 + E := by unfold R; omega
        rw [this]; omega
    have e := u64_and_nat ((Ieee.double.word neg (R E F)) / 4503599627370496) 2047 (by omega) (by omega)
    rw [nat_mask11, hq.1] at e
    rw [← e]
    rfl
  · have hq : (Ieee.double.word neg (R E F)) % 4503599627370496 = F ∧ Ieee.double.word neg (R E F) < 18446744073709551616 := by
      cases neg
      · rw [Fl.word_false, R_mod E F hF]; omega
      · rw [Fl.word_true, Fl.sw64]
        have : (9223372036854775808 + R E F) % 4503599627370496 = F := by unfold R; omega
        rw [this]; omega
    have e := u64_and_nat (Ieee.double.word neg (R E F)) 4503599627370495 hq.2 (by omega)
    have e2 : Ieee.double.word neg (R E F) &&& 4503599627370495 = Ieee.double.word neg (R E F) % 4503599627370496 := Nat.and_two_pow_sub_one_eq_mod _ 52
    rw [e2, hq.1] at e
    rw [← e]
    rfl

/-- Bits of 64 that say a number (of NaN: the one). -/
def ok64 (n : Nat) : Bool := !nan64 n || n == 9221120237041090560

theorem split64 (n : Nat) (h : n < 18446744073709551616) : ∃ neg E F, E ≤ 2047 ∧ F < 4503599627370496 ∧ n = Ieee.double.word neg (R E F) ∧ nan64 n = (E == 2047 && F != 0) := by
  obtain ⟨neg, r, hr, rfl⟩ := Fl.word_of Ieee.double n (Nat.lt_of_lt_of_eq h (by decide))
  rw [Fl.sw64] at hr
  have e : r = R (r / 4503599627370496) (r % 4503599627370496) := by unfold R; omega
  refine ⟨neg, r / 4503599627370496, r % 4503599627370496, by omega, by omega, by rw [← e], ?_⟩
  have hm : Ieee.double.word neg r % 9223372036854775808 = r := by
    cases neg
    · rw [Fl.word_false, Nat.mod_eq_of_lt hr]
    · rw [Fl.word_true, Fl.sw64, Nat.add_mod_left, Nat.mod_eq_of_lt hr]
  unfold nan64
  rw [hm, Bool.eq_iff_iff]
  simp only [decide_eq_true_eq, Bool.and_eq_true, beq_iff_eq, bne_iff_ne]
  omega

/-- The document's way from bits: what it tells. -/
theorem from64_ok (n : Nat) (w : World) (h : n < 18446744073709551616) (hn : nan64 n = false) :
    Calls Tryd.prog 13 #[.int .u64 n] w fun e w' => e = .returned (.tuple #[.float .f64 n, .int .i64 0]) ∧ w' = w := by
  obtain ⟨neg, E, F, hE, hF, rfl, hx⟩ := split64 n h
  obtain ⟨f1, f2, f3⟩ := fields64 neg E F hE hF
  rw [hn] at hx
  by_cases h7 : E = 2047
  · subst h7
    have hF0 : F = 0 := by simpa using hx
    subst hF0
    have e : R 2047 0 = 9218868437227405312 := by decide
    rw [e] at f1 f2 f3 ⊢
    exact from64_inf_core neg _ w f1 f2 (by rw [beq_eq_false_iff_ne]; cases neg <;> decide) f3
  · by_cases h0 : E = 0
    · subst h0
      have e : R 0 F = F := by unfold R; omega
      rw [e] at f1 f2 f3 ⊢
      exact from64_sub_core neg _ F w hF f1 f2 f3
    · exact from64_normal_core neg _ E F w (by omega) (by omega) hF f1 f2 f3

theorem from64_nan (w : World) :
    Calls Tryd.prog 13 #[.int .u64 9221120237041090560] w fun e w' => (∃ y, nan64 y = true ∧ y < 18446744073709551616 ∧ e = .returned (.tuple #[.float .f64 y, .int .i64 0])) ∧ w' = w.drewN 1 :=
  (from64_nan_core 9221120237041090560 w (by decide) (by decide)).mono fun _e _w' ⟨h1, h2⟩ => ⟨⟨_, (nanOf64 0 0 w).1, (nanOf64 0 0 w).2, h1⟩, h2⟩

theorem from64_bad (n : Nat) (w : World) (h : n < 18446744073709551616) (hn : nan64 n = true) (hb : n ≠ 9221120237041090560) :
    Calls Tryd.prog 13 #[.int .u64 n] w fun e w' => e = .returned (.tuple #[.float .f64 0, .int .i64 10]) ∧ w' = w := by
  obtain ⟨neg, E, F, hE, hF, rfl, hx⟩ := split64 n h
  obtain ⟨f1, f2, f3⟩ := fields64 neg E F hE hF
  rw [hn] at hx
  have hx' : E = 2047 ∧ F ≠ 0 := by simpa using hx.symm
  obtain ⟨rfl, hF0⟩ := hx'
  refine from64_bad_core _ w f1 ?_ ?_
  · rw [f2, bne_iff_ne]
    intro e
    exact hF0 (Int.natCast_inj.1 e)
  · rw [beq_eq_false_iff_ne]
    intro e
    exact hb (Int.natCast_inj.1 e)

end Go.Proofs.YthnnmgiihpdblaaDoor
