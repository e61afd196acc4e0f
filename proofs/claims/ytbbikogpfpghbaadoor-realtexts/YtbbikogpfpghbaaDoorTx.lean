/- The second printer's text of a number: the first one's. -/
import Derived.Test.YtbbikogpfpghbaaDoorDg
namespace Go.Proofs.YtbbikogpfpghbaaDoor
open Go.RowKit

def strLen : Value → Nat
  | .string s => s.size
  | _ => 0

theorem hx_step (j m : Nat) (hj : j < 13) (hm : m ≠ 0) : hx (13 - j) m = hexB (m / 281474976710656) :: hx (13 - (j + 1)) (m % 281474976710656 * 16) := by
  rw [show 13 - j = (13 - (j + 1)) + 1 from by omega, hx, if_neg hm]

theorem hx_mod (j m : Nat) (hj : j < 13) (h : m % 16 ^ j = 0) (hm : m < 4503599627370496) : (m % 281474976710656 * 16) % 16 ^ (j + 1) = 0 ∧ m % 281474976710656 * 16 < 4503599627370496 ∧ m / 281474976710656 < 16 := by
  refine ⟨?_, by omega, by omega⟩
  have e : (281474976710656 : Nat) = 16 ^ j * 16 ^ (12 - j) := by
    rw [← Nat.pow_add, show j + (12 - j) = 12 from by omega]
  have h2 : m % 281474976710656 % 16 ^ j = 0 := by
    rw [e, Nat.mod_mul_right_mod, h]
  rw [Nat.pow_succ, Nat.mul_mod_mul_right, h2]

theorem hx_end (m : Nat) (h : m % 16 ^ 13 = 0) (hm : m < 4503599627370496) : m = 0 := by
  rw [show (16 : Nat) ^ 13 = 4503599627370496 from by decide, Nat.mod_eq_of_lt hm] at h; exact h

theorem size_bytes (l : List UInt8) : (⟨l.toArray⟩ : ByteArray).size = l.length := by
  show l.toArray.size = _
  simp

/-- What is told of a full number. -/
def TxPost (pre : List UInt8) (n0 : Nat) (q0 : Int) (e : Ending) : Prop := ∃ k : Nat, (4503599627370496 ≤ n0 * 2 ^ k ∧ n0 * 2 ^ k < 9007199254740992) ∧ e = .returned (B (pre ++ [48, 120, 49] ++ fracL (n0 * 2 ^ k - 4503599627370496) ++ [112] ++ powL (q0 - k + 52)))

theorem double_lt (N0 : Int) (n0 k : Nat) (m : Int) (hN : N0 = (n0 : Int) ∧ 0 < N0 ∧ N0 < 9007199254740992) (h1 : m = ((n0 * 2 ^ k : Nat) : Int)) (hm : m < 9007199254740992) : k < 53 ∧ m * 2 = ((n0 * 2 ^ (k + 1) : Nat) : Int) := by
  constructor
  · rcases Nat.lt_or_ge k 53 with h | h
    · exact h
    · exfalso
      have h4 : 2 ^ 53 ≤ 2 ^ k := Nat.pow_le_pow_right (by omega) h
      have h5 : 1 * 2 ^ 53 ≤ n0 * 2 ^ k := Nat.mul_le_mul (by omega) h4
      rw [show (2 : Nat) ^ 53 = 9007199254740992 from by decide] at h5
      generalize n0 * 2 ^ k = y at *
      omega
  · rw [Nat.pow_succ, ← Nat.mul_assoc, h1]; omega

theorem add_digit (l : List UInt8) (D : Int) (h0 : 0 ≤ D) (h1 : D + 1 ≤ 16) : Value.string (⟨l.toArray⟩ ++ (⟨#[48, 49, 50, 51, 52, 53, 54, 55, 56, 57, 97, 98, 99, 100, 101, 102]⟩ : ByteArray).extract D.toNat (D + 1).toNat) = .string ⟨(l ++ [hexB D.toNat]).toArray⟩ := by
  have e := sixt_at D.toNat (by omega)
  unfold sixt at e
  rw [show (D + 1).toNat = D.toNat + 1 from by omega, e]
  exact congrArg Value.string (bapp l [hexB D.toNat])

theorem digit_step (j : Nat) (t : List UInt8) (M D : Int) (G : Nat) (hM0 : 0 < M) (hM1 : M < 4503599627370496) (hD : M / 281474976710656 = D) (hj : j ≤ 13)
    (HX : ∃ x : Nat, M = (x : Int) ∧ x % 16 ^ j = 0 ∧ t ++ hx (13 - j) x = hx 13 G) :
    j < 13 ∧ ∃ x : Nat, (M - D * 281474976710656) * 16 = (x : Int) ∧ x % 16 ^ (j + 1) = 0 ∧ (t ++ [hexB D.toNat]) ++ hx (13 - (j + 1)) x = hx 13 G := by
  obtain ⟨x, hx1, hx2, hx3⟩ := HX
  have hj2 : j < 13 := by
    rcases Nat.lt_or_ge j 13 with h | h
    · exact h
    · exfalso
      obtain rfl : j = 13 := by omega
      have := hx_end x hx2 (by omega)
      omega
  have h3 := hx_mod j x hj2 hx2 (by omega)
  have e1 : D.toNat = x / 281474976710656 := by omega
  refine ⟨hj2, x % 281474976710656 * 16, by omega, h3.1, ?_⟩
  rw [e1, List.append_assoc, List.singleton_append, ← hx_step j x hj2 (by omega), hx3]

theorem tx_fin (pre s : List UInt8) (n0 : Nat) (q0 p m F : Int) (hk : ∃ k : Nat, m = ((n0 * 2 ^ k : Nat) : Int) ∧ p = q0 - k) (h1 : ¬ m < 4503599627370496) (h2 : m < 9007199254740992) (hF : m - 4503599627370496 = F)
    (hs : s = pre ++ [48, 120, 49] ++ fracL F.toNat ++ [112] ++ powL (p + 52)) : TxPost pre n0 q0 (.returned (B s)) := by
  obtain ⟨k, h3, h4⟩ := hk
  refine ⟨k, by omega, ?_⟩
  have e : n0 * 2 ^ k - 4503599627370496 = F.toNat := by omega
  rw [e, hs, h4]

theorem pow_neg (e : Int) (h : e < 0) : [112] ++ powL e = [112, 45] ++ Lib.decDigits (-e).toNat := by
  unfold powL Lib.itoa
  rw [if_pos h, if_pos h, show e.natAbs = (-e).toNat from by omega]
  rfl
theorem pow_pos (e : Int) (h : ¬ e < 0) : [112] ++ powL e = [112, 43] ++ Lib.decDigits e.toNat := by
  unfold powL Lib.itoa
  rw [if_neg h, if_neg h]
  rfl

theorem three (a b c : List UInt8) : (⟨a.toArray⟩ : ByteArray) ++ ⟨b.toArray⟩ ++ ⟨c.toArray⟩ = ⟨(a ++ (b ++ c)).toArray⟩ := by
  rw [bapp, bapp, List.append_assoc]

theorem tx_str {pre : List UInt8} {n0 : Nat} {q0 : Int} (a b c : List UInt8) (h : TxPost pre n0 q0 (.returned (B (a ++ (b ++ c))))) : TxPost pre n0 q0 (.returned (.string (⟨a.toArray⟩ ++ ⟨b.toArray⟩ ++ ⟨c.toArray⟩))) := by
  rw [three a b c]; exact h

set_option maxHeartbeats 2000000 in
theorem text_tail (b q0 z N0 : Int) (n0 : Nat) (w : World) (hp : ∀ w, Calls Tryd.prog 88 #[.int .u64 b] w fun e w' => e = .returned (.tuple #[.int .u64 N0, .int .i64 q0]) ∧ w' = w)
    (hN : N0 = (n0 : Int)) (hn0 : 0 < N0) (hn1 : N0 < 9007199254740992) (hq1 : -1074 ≤ q0) (hq2 : q0 ≤ 971)
    (hs : (b / 9223372036854775808 == 1) = false) (hz : IntKind.u64.wrap (b * 2) / 2 = z) (hz1 : z < 9218868437227405312) (hz2 : (z == 9218868437227405312) = false) :
    Calls Tryd.prog 49 #[.int .u64 b] w fun e w' => TxPost [] n0 q0 e ∧ ∃ j, w' = w.drewN j := by
  have HP : Hid (∀ w, Calls Tryd.prog 88 #[.int .u64 b] w fun e w' => e = .returned (.tuple #[.int .u64 N0, .int .i64 q0]) ∧ w' = w) := hp
  have hnz : (N0 == 0) = false := beq_eq_false_iff_ne.2 (by omega)
  have HN : Hid (N0 = (n0 : Int) ∧ 0 < N0 ∧ N0 < 9007199254740992) := ⟨hN, hn0, hn1⟩
  have HD : Hid (∀ (v : Int) w, 0 ≤ v → v < 10000 → Calls Tryd.prog 89 #[.int .i64 v] w fun e w' => ∃ d : List UInt8, d.length ≤ 4 ∧ Hid (d = Lib.decDigits v.toNat) ∧ e = .returned (.string ⟨d.toArray⟩) ∧ ∃ k, w' = w.drewN k) := fun v w h1 h2 => by
    have := digits_any v.toNat (by omega) w
    rw [Int.toNat_of_nonneg h1] at this
    exact this.mono fun e w' ⟨a, b⟩ => ⟨_, dec_size v.toNat (by omega), rfl, a, b⟩
  clear hp hN
  go_enter Tryd.func49, Tryd.ntmps49
  go_wp2_with (go_at_call 88; refine (HP.out _).mono ?_; rintro e w' ⟨rfl, rfl⟩)
  go_loop [4, 5] (fun n q => ∃ (m : Int) (p : Int), n = .int .u64 m ∧ q = .int .i64 p ∧ p ≤ q0 ∧ q0 - 60 ≤ p ∧ 0 < m ∧ m < 9007199254740992 ∧ Hid (∃ k : Nat, m = ((n0 * 2 ^ k : Nat) : Int) ∧ p = q0 - k)) (fun _ q => (intOf q - q0 + 200).toNat)
  case atStart => exact ⟨N0, q0, rfl, rfl, by omega, by omega, hn0, hn1, 0, by simpa using HN.out.1, by omega⟩
  case round =>
    obtain ⟨m, p, rfl, rfl, hp1, hp2, hm0, hm1, HK⟩ := hrel
    clear hs hz hz1 hz2 hnz hn0 hn1
    by_cases hlt : m < 4503599627370496
    · go_wp2
      go_round
      case rel =>
        obtain ⟨k, h1, h2⟩ := HK.out
        have h3 := double_lt N0 n0 k m HN.out h1 hm1
        exact ⟨m * 2, p - 1, by go_num, rfl, by omega, by omega, by omega, by omega, k + 1, h3.2, by omega⟩
      case measure => simp [intOf]; omega
    · obtain ⟨F, hF⟩ : ∃ F : Int, m - 4503599627370496 = F := ⟨_, rfl⟩
      have hF0 : 0 ≤ F := by omega
      have hF1 : F < 4503599627370496 := by omega
      by_cases h0 : 0 < F
      · go_wp2
        go_loop [3, 4] (fun sv nv => ∃ (j : Nat) (t : List UInt8) (M : Int), sv = .string ⟨([48, 120, 49, 46] ++ t).toArray⟩ ∧ nv = .int .u64 M ∧ 0 ≤ M ∧ M < 4503599627370496 ∧ t.length = j ∧ j ≤ 13 ∧ Hid (∃ x : Nat, M = (x : Int) ∧ x % 16 ^ j = 0 ∧ t ++ hx (13 - j) x = hx 13 F.toNat)) (fun sv _ => 100 - strLen sv)
        case atStart => exact ⟨0, [], F, rfl, rfl, hF0, hF1, rfl, by omega, F.toNat, by omega, by rw [Nat.pow_zero, Nat.mod_one], rfl⟩
        case round =>
          obtain ⟨j, t, M, rfl, rfl, hM0, hM1, hj1, hj2, HX⟩ := hrel
          by_cases hM : 0 < M
          · obtain ⟨D, hD⟩ : ∃ D : Int, M / 281474976710656 = D := ⟨_, rfl⟩
            have hD0 : 0 ≤ D := by omega
            have hD1 : D + 1 ≤ 16 := by omega
            have hD2 : D * 281474976710656 ≤ M := by omega
            have hD3 : M - D * 281474976710656 < 281474976710656 := by omega
            go_wp2
            go_round
            case rel =>
              obtain ⟨hj3, hx4⟩ := digit_step j t M D F.toNat hM hM1 hD hj2 HX.out
              exact ⟨j + 1, t ++ [hexB D.toNat], (M - D * 281474976710656) * 16, add_digit _ D hD0 hD1, rfl, by omega, by omega, by simp [hj1], by omega, hx4⟩
            case measure =>
              rw [add_digit _ D hD0 hD1]
              simp only [strLen, size_bytes, List.length_append, List.length_cons, List.length_nil]
              omega
          · have HT : Hid (t = hx 13 F.toNat) := by
              obtain ⟨x, h1, _, h3⟩ := HX.out
              obtain rfl : x = 0 := by omega
              rw [(hx_nil _ _).2 (.inr rfl), List.append_nil] at h3
              exact h3
            obtain rfl : M = 0 := by omega
            clear HX
            by_cases he : p + 52 < 0
            · go_wp2_with (go_at_call 89; refine (HD.out _ _ (by omega) (by omega)).mono ?_; rintro e w2 ⟨d, hd, HDD, rfl, kk, rfl⟩)
              go_ret
              refine ⟨?_, kk, rfl⟩
              refine tx_str (48 :: 120 :: 49 :: 46 :: t) [112, 45] d ?_
              refine tx_fin [] _ n0 q0 p m F HK.out (by omega) hm1 hF ?_
              rw [hx_frac _ (by omega), if_neg (fun hh => absurd ((hx_nil _ _).1 hh) (by omega)), List.append_assoc _ [112], pow_neg _ he, HDD.out, HT.out]
              rfl
            · go_wp2_with (go_at_call 89; refine (HD.out _ _ (by omega) (by omega)).mono ?_; rintro e w2 ⟨d, hd, HDD, rfl, kk, rfl⟩)
              go_ret
              refine ⟨?_, kk, rfl⟩
              refine tx_str (48 :: 120 :: 49 :: 46 :: t) [112, 43] d ?_
              refine tx_fin [] _ n0 q0 p m F HK.out (by omega) hm1 hF ?_
              rw [hx_frac _ (by omega), if_neg (fun hh => absurd ((hx_nil _ _).1 hh) (by omega)), List.append_assoc _ [112], pow_pos _ (by omega), HDD.out, HT.out]
              rfl
      · obtain rfl : F = 0 := by omega
        go_wp2
        go_loop [3, 4] (fun sv nv => sv = .string ⟨#[48, 120, 49]⟩ ∧ nv = .int .u64 0) (fun _ _ => 0)
        case atStart => exact ⟨rfl, rfl⟩
        case round =>
          obtain ⟨rfl, rfl⟩ := hrel
          by_cases he : p + 52 < 0
          · go_wp2_with (go_at_call 89; refine (HD.out _ _ (by omega) (by omega)).mono ?_; rintro e w2 ⟨d, hd, HDD, rfl, kk, rfl⟩)
            go_ret
            refine ⟨?_, kk, rfl⟩
            refine tx_str [48, 120, 49] [112, 45] d ?_
            refine tx_fin [] _ n0 q0 p m 0 HK.out (by omega) hm1 hF ?_
            rw [hx_frac _ (by omega), if_pos ((hx_nil 13 (Int.toNat 0)).2 (.inr rfl)), List.append_assoc _ [112], pow_neg _ he, HDD.out]
            rfl
          · go_wp2_with (go_at_call 89; refine (HD.out _ _ (by omega) (by omega)).mono ?_; rintro e w2 ⟨d, hd, HDD, rfl, kk, rfl⟩)
            go_ret
            refine ⟨?_, kk, rfl⟩
            refine tx_str [48, 120, 49] [112, 43] d ?_
            refine tx_fin [] _ n0 q0 p m 0 HK.out (by omega) hm1 hF ?_
            rw [hx_frac _ (by omega), if_pos ((hx_nil 13 (Int.toNat 0)).2 (.inr rfl)), List.append_assoc _ [112], pow_pos _ (by omega), HDD.out]
            rfl

set_option maxHeartbeats 2000000 in
theorem text_tail_neg (b q0 z N0 : Int) (n0 : Nat) (w : World) (hp : ∀ w, Calls Tryd.prog 88 #[.int .u64 b] w fun e w' => e = .returned (.tuple #[.int .u64 N0, .int .i64 q0]) ∧ w' = w)
    (hN : N0 = (n0 : Int)) (hn0 : 0 < N0) (hn1 : N0 < 9007199254740992) (hq1 : -1074 ≤ q0) (hq2 : q0 ≤ 971)
    (hs : (b / 9223372036854775808 == 1) = true) (hz : IntKind.u64.wrap (b * 2) / 2 = z) (hz1 : z < 9218868437227405312) (hz2 : (z == 9218868437227405312) = false) :
    Calls Tryd.prog 49 #[.int .u64 b] w fun e w' => TxPost [45] n0 q0 e ∧ ∃ j, w' = w.drewN j := by
  have HP : Hid (∀ w, Calls Tryd.prog 88 #[.int .u64 b] w fun e w' => e = .returned (.tuple #[.int .u64 N0, .int .i64 q0]) ∧ w' = w) := hp
  have hnz : (N0 == 0) = false := beq_eq_false_iff_ne.2 (by omega)
  have HN : Hid (N0 = (n0 : Int) ∧ 0 < N0 ∧ N0 < 9007199254740992) := ⟨hN, hn0, hn1⟩
  have HD : Hid (∀ (v : Int) w, 0 ≤ v → v < 10000 → Calls Tryd.prog 89 #[.int .i64 v] w fun e w' => ∃ d : List UInt8, d.length ≤ 4 ∧ Hid (d = Lib.decDigits v.toNat) ∧ e = .returned (.string ⟨d.toArray⟩) ∧ ∃ k, w' = w.drewN k) := fun v w h1 h2 => by
    have := digits_any v.toNat (by omega) w
    rw [Int.toNat_of_nonneg h1] at this
    exact this.mono fun e w' ⟨a, b⟩ => ⟨_, dec_size v.toNat (by omega), rfl, a, b⟩
  clear hp hN
  go_enter Tryd.func49, Tryd.ntmps49
  go_wp2_with (go_at_call 88; refine (HP.out _).mono ?_; rintro e w' ⟨rfl, rfl⟩)
  go_loop [4, 5] (fun n q => ∃ (m : Int) (p : Int), n = .int .u64 m ∧ q = .int .i64 p ∧ p ≤ q0 ∧ q0 - 60 ≤ p ∧ 0 < m ∧ m < 9007199254740992 ∧ Hid (∃ k : Nat, m = ((n0 * 2 ^ k : Nat) : Int) ∧ p = q0 - k)) (fun _ q => (intOf q - q0 + 200).toNat)
  case atStart => exact ⟨N0, q0, rfl, rfl, by omega, by omega, hn0, hn1, 0, by simpa using HN.out.1, by omega⟩
  case round =>
    obtain ⟨m, p, rfl, rfl, hp1, hp2, hm0, hm1, HK⟩ := hrel
    clear hs hz hz1 hz2 hnz hn0 hn1
    by_cases hlt : m < 4503599627370496
    · go_wp2
      go_round
      case rel =>
        obtain ⟨k, h1, h2⟩ := HK.out
        have h3 := double_lt N0 n0 k m HN.out h1 hm1
        exact ⟨m * 2, p - 1, by go_num, rfl, by omega, by omega, by omega, by omega, k + 1, h3.2, by omega⟩
      case measure => simp [intOf]; omega
    · obtain ⟨F, hF⟩ : ∃ F : Int, m - 4503599627370496 = F := ⟨_, rfl⟩
      have hF0 : 0 ≤ F := by omega
      have hF1 : F < 4503599627370496 := by omega
      by_cases h0 : 0 < F
      · go_wp2
        go_loop [3, 4] (fun sv nv => ∃ (j : Nat) (t : List UInt8) (M : Int), sv = .string ⟨([45, 48, 120, 49, 46] ++ t).toArray⟩ ∧ nv = .int .u64 M ∧ 0 ≤ M ∧ M < 4503599627370496 ∧ t.length = j ∧ j ≤ 13 ∧ Hid (∃ x : Nat, M = (x : Int) ∧ x % 16 ^ j = 0 ∧ t ++ hx (13 - j) x = hx 13 F.toNat)) (fun sv _ => 100 - strLen sv)
        case atStart => exact ⟨0, [], F, rfl, rfl, hF0, hF1, rfl, by omega, F.toNat, by omega, by rw [Nat.pow_zero, Nat.mod_one], rfl⟩
        case round =>
          obtain ⟨j, t, M, rfl, rfl, hM0, hM1, hj1, hj2, HX⟩ := hrel
          by_cases hM : 0 < M
          · obtain ⟨D, hD⟩ : ∃ D : Int, M / 281474976710656 = D := ⟨_, rfl⟩
            have hD0 : 0 ≤ D := by omega
            have hD1 : D + 1 ≤ 16 := by omega
            have hD2 : D * 281474976710656 ≤ M := by omega
            have hD3 : M - D * 281474976710656 < 281474976710656 := by omega
            go_wp2
            go_round
            case rel =>
              obtain ⟨hj3, hx4⟩ := digit_step j t M D F.toNat hM hM1 hD hj2 HX.out
              exact ⟨j + 1, t ++ [hexB D.toNat], (M - D * 281474976710656) * 16, add_digit _ D hD0 hD1, rfl, by omega, by omega, by simp [hj1], by omega, hx4⟩
            case measure =>
              rw [add_digit _ D hD0 hD1]
              simp only [strLen, size_bytes, List.length_append, List.length_cons, List.length_nil]
              omega
          · have HT : Hid (t = hx 13 F.toNat) := by
              obtain ⟨x, h1, _, h3⟩ := HX.out
              obtain rfl : x = 0 := by omega
              rw [(hx_nil _ _).2 (.inr rfl), List.append_nil] at h3
              exact h3
            obtain rfl : M = 0 := by omega
            clear HX
            by_cases he : p + 52 < 0
            · go_wp2_with (go_at_call 89; refine (HD.out _ _ (by omega) (by omega)).mono ?_; rintro e w2 ⟨d, hd, HDD, rfl, kk, rfl⟩)
              go_ret
              refine ⟨?_, kk, rfl⟩
              refine tx_str (45 :: 48 :: 120 :: 49 :: 46 :: t) [112, 45] d ?_
              refine tx_fin [45] _ n0 q0 p m F HK.out (by omega) hm1 hF ?_
              rw [hx_frac _ (by omega), if_neg (fun hh => absurd ((hx_nil _ _).1 hh) (by omega)), List.append_assoc _ [112], pow_neg _ he, HDD.out, HT.out]
              rfl
            · go_wp2_with (go_at_call 89; refine (HD.out _ _ (by omega) (by omega)).mono ?_; rintro e w2 ⟨d, hd, HDD, rfl, kk, rfl⟩)
              go_ret
              refine ⟨?_, kk, rfl⟩
              refine tx_str (45 :: 48 :: 120 :: 49 :: 46 :: t) [112, 43] d ?_
              refine tx_fin [45] _ n0 q0 p m F HK.out (by omega) hm1 hF ?_
              rw [hx_frac _ (by omega), if_neg (fun hh => absurd ((hx_nil _ _).1 hh) (by omega)), List.append_assoc _ [112], pow_pos _ (by omega), HDD.out, HT.out]
              rfl
      · obtain rfl : F = 0 := by omega
        go_wp2
        go_loop [3, 4] (fun sv nv => sv = .string ⟨#[45, 48, 120, 49]⟩ ∧ nv = .int .u64 0) (fun _ _ => 0)
        case atStart => exact ⟨rfl, rfl⟩
        case round =>
          obtain ⟨rfl, rfl⟩ := hrel
          by_cases he : p + 52 < 0
          · go_wp2_with (go_at_call 89; refine (HD.out _ _ (by omega) (by omega)).mono ?_; rintro e w2 ⟨d, hd, HDD, rfl, kk, rfl⟩)
            go_ret
            refine ⟨?_, kk, rfl⟩
            refine tx_str [45, 48, 120, 49] [112, 45] d ?_
            refine tx_fin [45] _ n0 q0 p m 0 HK.out (by omega) hm1 hF ?_
            rw [hx_frac _ (by omega), if_pos ((hx_nil 13 (Int.toNat 0)).2 (.inr rfl)), List.append_assoc _ [112], pow_neg _ he, HDD.out]
            rfl
          · go_wp2_with (go_at_call 89; refine (HD.out _ _ (by omega) (by omega)).mono ?_; rintro e w2 ⟨d, hd, HDD, rfl, kk, rfl⟩)
            go_ret
            refine ⟨?_, kk, rfl⟩
            refine tx_str [45, 48, 120, 49] [112, 43] d ?_
            refine tx_fin [45] _ n0 q0 p m 0 HK.out (by omega) hm1 hF ?_
            rw [hx_frac _ (by omega), if_pos ((hx_nil 13 (Int.toNat 0)).2 (.inr rfl)), List.append_assoc _ [112], pow_pos _ (by omega), HDD.out]
            rfl

end Go.Proofs.YtbbikogpfpghbaaDoor
