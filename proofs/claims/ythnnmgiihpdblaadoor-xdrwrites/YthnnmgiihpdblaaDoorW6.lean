/- The document's own way from bits of 64 to the nearest bits of 32. -/
import Derived.Test.YthnnmgiihpdblaaDoorW5
namespace Go.Proofs.YthnnmgiihpdblaaDoor
open Go.RowKit

set_option maxHeartbeats 1000000 in
theorem parts_zero (b : Int) (F : Nat) (w : World)
    (hbE : bits .and .u64 (b / 4503599627370496) 2047 = 0) (hbF : bits .and .u64 b 4503599627370495 = (F : Int)) :
    Calls Tryd.prog 88 #[.int .u64 b] w fun e w' => e = .returned (.tuple #[.int .u64 F, .int .i64 (-1074)]) ∧ w' = w := by
  go_enter Tryd.func88, Tryd.ntmps88
  go_wp2
  go_ret2
  exact ⟨rfl, rfl⟩

set_option maxHeartbeats 1000000 in
theorem parts_full (b : Int) (E F : Nat) (w : World) (h1 : 1 ≤ E) (hE : E ≤ 2046) (HF : F < 4503599627370496)
    (hbE : bits .and .u64 (b / 4503599627370496) 2047 = (E : Int)) (hbF : bits .and .u64 b 4503599627370495 = (F : Int)) :
    Calls Tryd.prog 88 #[.int .u64 b] w fun e w' => e = .returned (.tuple #[.int .u64 (F + 4503599627370496), .int .i64 (E - 1075)]) ∧ w' = w := by
  have h0 : ((E : Int) == 0) = false := beq_eq_false_iff_ne.2 (by omega)
  go_enter Tryd.func88, Tryd.ntmps88
  go_wp2
  go_ret2
  exact ⟨rfl, rfl⟩

/-- What the parts of a finite number are. -/
def mant (E F : Nat) : Nat := if E = 0 then F else F + 4503599627370496
def expo (E : Nat) : Int := if E = 0 then -1074 else E - 1075

theorem parts_any (b : Int) (E F : Nat) (w : World) (hE : E ≤ 2046) (HF : F < 4503599627370496)
    (hbE : bits .and .u64 (b / 4503599627370496) 2047 = (E : Int)) (hbF : bits .and .u64 b 4503599627370495 = (F : Int)) :
    Calls Tryd.prog 88 #[.int .u64 b] w fun e w' => e = .returned (.tuple #[.int .u64 (mant E F : Nat), .int .i64 (expo E)]) ∧ w' = w := by
  unfold mant expo
  by_cases h : E = 0
  · subst h
    exact parts_zero b F w hbE hbF
  · rw [if_neg h, if_neg h]
    exact parts_full b E F w (by omega) hE HF hbE hbF

theorem shr_gt (n k : Nat) (h : k < n.log2) (h0 : n ≠ 0) : 1 < ((n : Int) / 2 ^ k) := by
  have h1 : 2 ^ (k + 1) ≤ n := Nat.le_trans (Nat.pow_le_pow_right (by omega) h) (Nat.log2_self_le h0)
  rw [Nat.pow_succ] at h1
  have h2 : 2 ≤ n / 2 ^ k := (Nat.le_div_iff_mul_le (Nat.two_pow_pos k)).2 (by omega)
  have e : ((n : Int) / 2 ^ k) = ((n / 2 ^ k : Nat) : Int) := by rw [Int.natCast_ediv, Int.natCast_pow]; rfl
  rw [e]; omega
theorem shr_le (n : Nat) : ((n : Int) / 2 ^ n.log2) ≤ 1 := by
  have h1 : n < 2 ^ (n.log2 + 1) := Nat.lt_log2_self
  rw [Nat.pow_succ] at h1
  have h2 : n / 2 ^ n.log2 < 2 := (Nat.div_lt_iff_lt_mul (Nat.two_pow_pos _)).2 (by omega)
  have e : ((n : Int) / 2 ^ n.log2) = ((n / 2 ^ n.log2 : Nat) : Int) := by rw [Int.natCast_ediv, Int.natCast_pow]; rfl
  rw [e]; omega

set_option maxHeartbeats 400000 in
theorem narrow_low (b sg s32 q P M : Int) (n H : Nat) (w : World) (hp : ∀ w, Calls Tryd.prog 88 #[.int .u64 b] w fun e w' => e = .returned (.tuple #[.int .u64 n, .int .i64 q]) ∧ w' = w)
    (hn0 : n ≠ 0) (hH : n.log2 = H) (hH2 : H ≤ 52) (_hq1 : -1074 ≤ q) (hqH : q + H < -126) (hq2 : -149 - q ≤ 60)
    (hM0 : 0 ≤ M) (hM : M < 8388608) (hshr : Op.shift .shr .u64 (n : Int) .i64 (-149 - q) = pure (.int .u64 M)) (hshl : Op.shift .shl .u64 M .i64 (-149 - q) = pure (.int .u64 n)) (hone : Op.shift .shl .u64 1 .i64 (-149 - q) = pure (.int .u64 (2 * P))) (hP : 0 < P) (hP2 : P < 4000000000000000000)
    (hsg : b / 9223372036854775808 = sg) (hs32 : sg % 4294967296 * 2147483648 % 4294967296 = s32) (hb : (b == 9221120237041090560) = false) (hb2 : (IntKind.u64.wrap (b * 2) == 18437736874454810624) = false) :
    Calls Tryd.prog 46 #[.int .u64 b] w fun e w' => e = .returned (.tuple #[.int .u32 (bits .or .u32 s32 M), .bool true]) ∧ w' = w := by
  have HP : Hid (∀ w, Calls Tryd.prog 88 #[.int .u64 b] w fun e w' => e = .returned (.tuple #[.int .u64 n, .int .i64 q]) ∧ w' = w) := hp
  clear hp
  have hnz : ((n : Int) == 0) = false := beq_eq_false_iff_ne.2 (by omega)
  have HN0 : Hid (n ≠ 0) := hn0
  have HH : Hid (n.log2 = H) := hH
  have Hshr : Hid (Op.shift .shr .u64 (n : Int) .i64 (-149 - q) = pure (.int .u64 M)) := hshr
  have Hshl : Hid (Op.shift .shl .u64 M .i64 (-149 - q) = pure (.int .u64 n)) := hshl
  have Hone : Hid (Op.shift .shl .u64 1 .i64 (-149 - q) = pure (.int .u64 (2 * P))) := hone
  have HP1 : Hid (0 < P ∧ P < 4000000000000000000) := ⟨hP, hP2⟩
  have HM : Hid (0 ≤ M ∧ M < 8388608) := ⟨hM0, hM⟩
  clear hn0 hH hshr hshl hone hP hP2 hM hM0
  go_enter Tryd.func46, Tryd.ntmps46
  go_wp2_with (go_at_call 88; refine (HP.out _).mono ?_; rintro e w' ⟨rfl, rfl⟩)
  go_loop [7] (fun h => ∃ k : Nat, h = .int .i64 k ∧ k ≤ H) (fun h => 100 - (intOf h).toNat)
  case atStart => exact ⟨0, rfl, Nat.zero_le _⟩
  case round =>
    obtain ⟨k, rfl, hk⟩ := hrel
    by_cases hlt : k < H
    · have hg := shr_gt n k (by rw [HH.out]; exact hlt) HN0.out
      clear hsg hs32 hb hb2 hnz
      go_wp2
      go_round
      case rel => exact ⟨k + 1, by go_num, by omega⟩
      case measure => simp [intOf]; omega
    · obtain rfl : k = H := by omega
      have hg := shr_le n
      rw [HH.out] at hg
      have hshr := Hshr.out
      have hshl := Hshl.out
      have hone := Hone.out
      obtain ⟨hP, hP2⟩ := HP1.out
      obtain ⟨hM0, hM⟩ := HM.out
      have hmid : (0 == P) = false := beq_eq_false_iff_ne.2 (by omega)
      clear hsg hs32 hb hb2 hnz hlt hk
      go_wp2
      go_ret2
      exact ⟨rfl, rfl⟩

set_option maxHeartbeats 400000 in
theorem narrow_high (b sg s32 q M : Int) (n : Nat) (w : World) (hp : ∀ w, Calls Tryd.prog 88 #[.int .u64 b] w fun e w' => e = .returned (.tuple #[.int .u64 n, .int .i64 q]) ∧ w' = w)
    (hn0 : n ≠ 0) (hH : n.log2 = 52) (hq1 : -178 ≤ q) (hq2 : q ≤ 75)
    (hM0 : 8388608 ≤ M) (hM : M < 16777216) (hshr : (n : Int) / 536870912 = M) (hshl : M * 536870912 = (n : Int))
    (hsg : b / 9223372036854775808 = sg) (hs32 : sg % 4294967296 * 2147483648 % 4294967296 = s32) (hb : (b == 9221120237041090560) = false) (hb2 : (IntKind.u64.wrap (b * 2) == 18437736874454810624) = false) :
    Calls Tryd.prog 46 #[.int .u64 b] w fun e w' => e = .returned (.tuple #[.int .u32 (bits .or .u32 (bits .or .u32 s32 ((q + 52 - 23 + 150) * 8388608)) (M - 8388608)), .bool true]) ∧ w' = w := by
  have HP : Hid (∀ w, Calls Tryd.prog 88 #[.int .u64 b] w fun e w' => e = .returned (.tuple #[.int .u64 n, .int .i64 q]) ∧ w' = w) := hp
  clear hp
  have hnz : ((n : Int) == 0) = false := beq_eq_false_iff_ne.2 (by omega)
  have HN0 : Hid (n ≠ 0) := hn0
  have HH : Hid (n.log2 = 52) := hH
  have Hshr : Hid ((n : Int) / 536870912 = M) := hshr
  have Hshl : Hid (M * 536870912 = (n : Int)) := hshl
  have HM : Hid (8388608 ≤ M ∧ M < 16777216) := ⟨hM0, hM⟩
  clear hn0 hH hshr hshl hM hM0
  go_enter Tryd.func46, Tryd.ntmps46
  go_wp2_with (go_at_call 88; refine (HP.out _).mono ?_; rintro e w' ⟨rfl, rfl⟩)
  go_loop [7] (fun h => ∃ k : Nat, h = .int .i64 k ∧ k ≤ 52) (fun h => 100 - (intOf h).toNat)
  case atStart => exact ⟨0, rfl, Nat.zero_le _⟩
  case round =>
    obtain ⟨k, rfl, hk⟩ := hrel
    by_cases hlt : k < 52
    · have hg := shr_gt n k (by rw [HH.out]; exact hlt) HN0.out
      clear hsg hs32 hb hb2 hnz
      go_wp2
      go_round
      case rel => exact ⟨k + 1, by go_num, by omega⟩
      case measure => simp [intOf]; omega
    · obtain rfl : k = 52 := by omega
      have hg : (n : Int) / 4503599627370496 ≤ 1 := by
        have := shr_le n
        rw [HH.out] at this
        exact this
      have hshr := Hshr.out
      have hshl := Hshl.out
      obtain ⟨hM0, hM⟩ := HM.out
      have hq9 : q + 52 - 23 - q = 29 := by omega
      clear hsg hs32 hb hb2 hnz hlt hk
      go_wp2
      go_ret2
      exact ⟨rfl, rfl⟩

set_option maxHeartbeats 400000 in
theorem narrow_zero (b sg s32 q : Int) (w : World) (hp : ∀ w, Calls Tryd.prog 88 #[.int .u64 b] w fun e w' => e = .returned (.tuple #[.int .u64 0, .int .i64 q]) ∧ w' = w)
    (hsg : b / 9223372036854775808 = sg) (hs32 : sg % 4294967296 * 2147483648 % 4294967296 = s32) (hb : (b == 9221120237041090560) = false) (hb2 : (IntKind.u64.wrap (b * 2) == 18437736874454810624) = false) :
    Calls Tryd.prog 46 #[.int .u64 b] w fun e w' => e = .returned (.tuple #[.int .u32 s32, .bool true]) ∧ w' = w := by
  have HP : Hid (∀ w, Calls Tryd.prog 88 #[.int .u64 b] w fun e w' => e = .returned (.tuple #[.int .u64 0, .int .i64 q]) ∧ w' = w) := hp
  clear hp
  go_enter Tryd.func46, Tryd.ntmps46
  go_wp2_with (go_at_call 88; refine (HP.out _).mono ?_; rintro e w' ⟨rfl, rfl⟩)
  go_ret2
  exact ⟨rfl, rfl⟩

set_option maxHeartbeats 400000 in
theorem narrow_inf (b sg s32 : Int) (w : World)
    (hsg : b / 9223372036854775808 = sg) (hs32 : sg % 4294967296 * 2147483648 % 4294967296 = s32) (hb : (b == 9221120237041090560) = false) (hb2 : (IntKind.u64.wrap (b * 2) == 18437736874454810624) = true) :
    Calls Tryd.prog 46 #[.int .u64 b] w fun e w' => e = .returned (.tuple #[.int .u32 (bits .or .u32 s32 2139095040), .bool true]) ∧ w' = w := by
  go_enter Tryd.func46, Tryd.ntmps46
  go_wp2
  go_ret2
  exact ⟨rfl, rfl⟩

set_option maxHeartbeats 400000 in
theorem narrow_nan (b : Int) (w : World) (hb : (b == 9221120237041090560) = true) :
    Calls Tryd.prog 46 #[.int .u64 b] w fun e w' => e = .returned (.tuple #[.int .u32 2143289344, .bool true]) ∧ w' = w := by
  go_enter Tryd.func46, Tryd.ntmps46
  go_wp2
  go_ret2
  exact ⟨rfl, rfl⟩

/-! The tests at the head of narrow. -/
def sgn (neg : Bool) : Int := if neg then 1 else 0
def sgn32 (neg : Bool) : Int := if neg then 2147483648 else 0
theorem head_sg (neg : Bool) (r : Nat) (h : r < 9223372036854775808) : ((Ieee.double.word neg r : Nat) : Int) / 9223372036854775808 = sgn neg := by
  cases neg
  · rw [Fl.word_false]; show _ = (0 : Int); omega
  · rw [Fl.word_true, Fl.sw64]; show _ = (1 : Int); omega
theorem head_s32 (neg : Bool) : sgn neg % 4294967296 * 2147483648 % 4294967296 = sgn32 neg := by cases neg <;> decide
theorem head_nan (neg : Bool) (r : Nat) (h : r ≤ 9218868437227405312) : (((Ieee.double.word neg r : Nat) : Int) == 9221120237041090560) = false := by
  rw [beq_eq_false_iff_ne]
  intro e
  have e2 : Ieee.double.word neg r = 9221120237041090560 := Int.natCast_inj.1 e
  cases neg
  · rw [Fl.word_false] at e2; omega
  · rw [Fl.word_true, Fl.sw64] at e2; omega
theorem head_dbl (neg : Bool) (r : Nat) (h : r < 9223372036854775808) : IntKind.u64.wrap (((Ieee.double.word neg r : Nat) : Int) * 2) = ((r * 2 : Nat) : Int) := by
  rw [IntKind.wrap_u64]
  cases neg
  · rw [Fl.word_false]; omega
  · rw [Fl.word_true, Fl.sw64]; omega
theorem head_inf (neg : Bool) (r : Nat) (h : r < 9218868437227405312) : (IntKind.u64.wrap (((Ieee.double.word neg r : Nat) : Int) * 2) == 18437736874454810624) = false := by
  rw [head_dbl neg r (by omega), beq_eq_false_iff_ne]
  intro e
  have e2 : r * 2 = 18437736874454810624 := Int.natCast_inj.1 e
  omega

theorem or32 (neg : Bool) (y : Nat) (hy : y < 2147483648) : bits .or .u32 (sgn32 neg) (y : Int) = ((Ieee.single.word neg y : Nat) : Int) := by
  cases neg
  · have e := u32_or_nat 0 y (by omega) (by omega)
    rw [Nat.zero_or] at e
    exact e
  · have e := u32_or_nat 2147483648 y (by omega) (by omega)
    rw [nat_join 31 2147483648 y (by decide) (Nat.lt_of_lt_of_eq hy (by decide))] at e
    rw [Fl.word_true, Fl.sw32]
    exact e

/-- Where the wide number is the narrow one of a rung: what is told. -/
theorem narrow_exact_low (neg : Bool) (m : Nat) (hm0 : m ≠ 0) (hm : m < 8388608) (w : World) (E F : Nat) (hE : E ≤ 2046) (h1 : 1 ≤ E) (hF : F < 4503599627370496)
    (hK : F + 4503599627370496 = m * 2 ^ (52 - m.log2)) (hX : (E : Int) - 1075 = -149 + (m.log2 : Int) - 52) :
    Calls Tryd.prog 46 #[.int .u64 (Ieee.double.word neg (R E F) : Nat)] w fun e w' => e = .returned (.tuple #[.int .u32 (Ieee.single.word neg m : Nat), .bool true]) ∧ w' = w := by
  obtain ⟨f1, f2, _⟩ := fields64 neg E F (by omega) hF
  have hlt := R_lt E F hE hF
  have hp := fun w => parts_full (Ieee.double.word neg (R E F) : Nat) E F w h1 hE hF f1 f2
  have hlog : m.log2 ≤ 22 := by
    have := (Nat.log2_lt hm0).2 (Nat.lt_of_lt_of_eq hm (by decide : 8388608 = 2 ^ 23)); omega
  have hq : (E : Int) - 1075 = -149 - ((52 - m.log2 : Nat) : Int) := by omega
  generalize hd : 52 - m.log2 = d at *
  have hd1 : 30 ≤ d := by omega
  have hd2 : d ≤ 52 := by omega
  have hK2 : (m * 2 ^ d).log2 = m.log2 + d := Fl.log2_mul_pow m d hm0
  have hKc : (F : Int) + 4503599627370496 = ((m * 2 ^ d : Nat) : Int) := by omega
  have hKb : m * 2 ^ d < 9007199254740992 := by omega
  have hpos := Nat.two_pow_pos d
  rw [hKc] at hp
  have ed : -149 - ((E : Int) - 1075) = (d : Int) := by omega
  have edn : (-149 - ((E : Int) - 1075)).toNat = d := by omega
  have hP : 2 ^ d = 2 * 2 ^ (d - 1) := by rw [← Nat.pow_succ']; congr 1; omega
  have hPb : 2 ^ (d - 1) ≤ 2 ^ 51 := Nat.pow_le_pow_right (by omega) (by omega)
  have e51 : (2 : Nat) ^ 51 = 2251799813685248 := by decide
  have hPp := Nat.two_pow_pos (d - 1)
  have r := narrow_low (Ieee.double.word neg (R E F) : Nat) (sgn neg) (sgn32 neg) ((E : Int) - 1075) ((2 ^ (d - 1) : Nat) : Int) (m : Int) (m * 2 ^ d) (m.log2 + d) w hp (Nat.mul_ne_zero hm0 (by omega)) hK2 (by omega) (by omega) (by omega) (by omega) (by omega) (by omega)
    (by
      rw [shift_shr .u64 .i64 _ _ (by omega) (by rw [ed]; simp [IntKind.bits]; omega), edn, Int.natCast_mul, Int.natCast_pow]
      have h2 : ((2 ^ d : Nat) : Int) ≠ 0 := by omega
      rw [Int.natCast_pow] at h2
      rw [show ((2 : Nat) : Int) = 2 from rfl] at h2 ⊢
      rw [Int.mul_ediv_cancel _ h2])
    (by
      rw [shift_shl .u64 .i64 _ _ (by omega) (by rw [ed]; simp [IntKind.bits]; omega), edn, IntKind.wrap_u64]
      have : (m : Int) * 2 ^ d = ((m * 2 ^ d : Nat) : Int) := by rw [Int.natCast_mul, Int.natCast_pow]; rfl
      rw [this, Int.emod_eq_of_lt (by omega) (by omega)])
    (by
      rw [shift_shl .u64 .i64 _ _ (by omega) (by rw [ed]; simp [IntKind.bits]; omega), edn, IntKind.wrap_u64]
      have : (1 : Int) * 2 ^ d = ((2 ^ d : Nat) : Int) := by rw [Int.natCast_pow, Int.one_mul]; rfl
      have e3 : ((2 ^ d : Nat) : Int) = 2 * ((2 ^ (d - 1) : Nat) : Int) := by omega
      rw [this, Int.emod_eq_of_lt (by omega) (by omega), e3])
    (by omega) (by omega)
    (head_sg neg _ (by omega)) (head_s32 neg) (head_nan neg _ (by omega)) (head_inf neg _ hlt)
  rw [or32 neg m (by omega)] at r
  exact r

theorem narrow_exact_high (neg : Bool) (m : Nat) (hm1 : 8388608 ≤ m) (hm : m < 16777216) (p : Int) (hp1 : -149 ≤ p) (hp2 : p ≤ 104) (w : World) (E F : Nat) (hE : E ≤ 2046) (h1 : 1 ≤ E) (hF : F < 4503599627370496)
    (hK : F + 4503599627370496 = m * 536870912) (hX : (E : Int) - 1075 = p - 29) :
    Calls Tryd.prog 46 #[.int .u64 (Ieee.double.word neg (R E F) : Nat)] w fun e w' => e = .returned (.tuple #[.int .u32 (Ieee.single.word neg ((p + 150).toNat * 8388608 + (m - 8388608)) : Nat), .bool true]) ∧ w' = w := by
  have e3 : bits .or .u32 (bits .or .u32 (sgn32 neg) (((p + 150).toNat * 8388608 : Nat) : Int)) ((m - 8388608 : Nat) : Int) = ((Ieee.single.word neg ((p + 150).toNat * 8388608 + (m - 8388608)) : Nat) : Int) := by
    generalize hA : (p + 150).toNat = A
    have hA2 : A < 256 := by omega
    generalize hB : m - 8388608 = B
    have hB2 : B < 8388608 := by omega
    have hAB : A * 8388608 < 2147483648 := by omega
    clear hA hB hX hK hF hE h1 hm hm1 hp1 hp2
    rw [or32 neg _ hAB]
    have hw : Ieee.single.word neg (A * 8388608) < 4294967296 ∧ Ieee.single.word neg (A * 8388608) % 2 ^ 23 = 0 ∧ Ieee.single.word neg (A * 8388608) + B = Ieee.single.word neg (A * 8388608 + B) := by
      rw [show (2 : Nat) ^ 23 = 8388608 from by decide]
      cases neg
      · rw [Fl.word_false, Fl.word_false]; omega
      · rw [Fl.word_true, Fl.word_true, Fl.sw32]; omega
    rw [u32_or_nat _ _ hw.1 (by omega), nat_join 23 _ _ hw.2.1 (by rw [show (2 : Nat) ^ 23 = 8388608 from by decide]; omega), hw.2.2]
  have e1 : ((E : Int) - 1075 + 52 - 23 + 150) * 8388608 = (((p + 150).toNat * 8388608 : Nat) : Int) := by omega
  have e2 : (m : Int) - 8388608 = ((m - 8388608 : Nat) : Int) := by omega
  obtain ⟨f1, f2, _⟩ := fields64 neg E F (by omega) hF
  have hlt := R_lt E F hE hF
  have hp := fun w => parts_full (Ieee.double.word neg (R E F) : Nat) E F w h1 hE hF f1 f2
  have hKc : (F : Int) + 4503599627370496 = ((m * 536870912 : Nat) : Int) := by omega
  rw [hKc] at hp
  have hlog : (m * 536870912).log2 = 52 := by
    rw [Nat.log2_eq_iff (by omega)]
    refine ⟨?_, ?_⟩
    · rw [show (2 : Nat) ^ 52 = 4503599627370496 from by decide]; omega
    · rw [show (2 : Nat) ^ (52 + 1) = 9007199254740992 from by decide]; omega
  have r := narrow_high (Ieee.double.word neg (R E F) : Nat) (sgn neg) (sgn32 neg) ((E : Int) - 1075) (m : Int) (m * 536870912) w hp (by omega) hlog (by omega) (by omega) (by omega) (by omega) (by omega) (by omega)
    (head_sg neg _ (by omega)) (head_s32 neg) (head_nan neg _ (by omega)) (head_inf neg _ hlt)
  rw [e1, e2, e3] at r
  exact r

end Go.Proofs.YthnnmgiihpdblaaDoor
