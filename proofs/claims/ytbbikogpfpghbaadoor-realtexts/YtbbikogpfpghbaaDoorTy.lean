/- The second printer, at every number: the first one's text. -/
import Derived.Test.YtbbikogpfpghbaaDoorTx
import Derived.Test.YtbbikogpfpghbaaDoorNf
namespace Go.Proofs.YtbbikogpfpghbaaDoor
open Go.RowKit

set_option maxHeartbeats 400000 in
theorem text_nan (b z : Int) (neg : Bool) (w : World) (hs : (b / 9223372036854775808 == 1) = neg) (hz : IntKind.u64.wrap (b * 2) / 2 = z) (hz1 : 9218868437227405312 < z) :
    Calls Tryd.prog 49 #[.int .u64 b] w fun e w' => e = .returned (.string ⟨#[110, 97, 110]⟩) ∧ w' = w := by
  cases neg
  · go_enter Tryd.func49, Tryd.ntmps49
    go_wp2
    go_ret
    exact ⟨rfl, rfl⟩
  · go_enter Tryd.func49, Tryd.ntmps49
    go_wp2
    go_ret
    exact ⟨rfl, rfl⟩

set_option maxHeartbeats 400000 in
theorem text_inf (b z : Int) (neg : Bool) (w : World) (hs : (b / 9223372036854775808 == 1) = neg) (hz : IntKind.u64.wrap (b * 2) / 2 = z) (hz1 : z ≤ 9218868437227405312) (hz2 : (z == 9218868437227405312) = true) :
    Calls Tryd.prog 49 #[.int .u64 b] w fun e w' => e = .returned (B ((if neg then [45] else []) ++ [105, 110, 102])) ∧ w' = w := by
  cases neg
  · go_enter Tryd.func49, Tryd.ntmps49
    go_wp2
    go_ret
    exact ⟨ret_str (bapp [] [105, 110, 102]), rfl⟩
  · go_enter Tryd.func49, Tryd.ntmps49
    go_wp2
    go_ret
    exact ⟨ret_str (bapp [45] [105, 110, 102]), rfl⟩

set_option maxHeartbeats 400000 in
theorem text_zero (b z q : Int) (neg : Bool) (w : World) (hp : ∀ w, Calls Tryd.prog 88 #[.int .u64 b] w fun e w' => e = .returned (.tuple #[.int .u64 0, .int .i64 q]) ∧ w' = w)
    (hs : (b / 9223372036854775808 == 1) = neg) (hz : IntKind.u64.wrap (b * 2) / 2 = z) (hz1 : z < 9218868437227405312) (hz2 : (z == 9218868437227405312) = false) :
    Calls Tryd.prog 49 #[.int .u64 b] w fun e w' => e = .returned (B ((if neg then [45] else []) ++ [48, 120, 48, 112, 43, 48])) ∧ w' = w := by
  have HP : Hid (∀ w, Calls Tryd.prog 88 #[.int .u64 b] w fun e w' => e = .returned (.tuple #[.int .u64 0, .int .i64 q]) ∧ w' = w) := hp
  clear hp
  cases neg
  · go_enter Tryd.func49, Tryd.ntmps49
    go_wp2_with (go_at_call 88; refine (HP.out _).mono ?_; rintro e w' ⟨rfl, rfl⟩)
    go_ret
    exact ⟨ret_str (bapp [] [48, 120, 48, 112, 43, 48]), rfl⟩
  · go_enter Tryd.func49, Tryd.ntmps49
    go_wp2_with (go_at_call 88; refine (HP.out _).mono ?_; rintro e w' ⟨rfl, rfl⟩)
    go_ret
    exact ⟨ret_str (bapp [45] [48, 120, 48, 112, 43, 48]), rfl⟩

/-- Doubled up to the top bit: the fraction and the power that the first printer unpacks. -/
theorem tx_parts (r k : Nat) (h0 : r ≠ 0) (h : 4503599627370496 ≤ Fl.magOf Ieee.double r * 2 ^ k ∧ Fl.magOf Ieee.double r * 2 ^ k < 9007199254740992) :
    Fl.magOf Ieee.double r * 2 ^ k - 4503599627370496 = frc (r / 4503599627370496) (r % 4503599627370496) ∧ Fl.placeOf Ieee.double r - k + 52 = pwr (r / 4503599627370496) (r % 4503599627370496) := by
  rw [← mant_eq, ← expo_eq] at *
  have hd := Nat.div_add_mod r 4503599627370496
  have hm := Nat.mod_lt r (by omega : 0 < 4503599627370496)
  generalize r / 4503599627370496 = E at *
  generalize r % 4503599627370496 = F at *
  unfold mant at h ⊢
  unfold expo frc pwr
  by_cases hE : E = 0
  · subst hE
    rw [if_pos rfl] at h ⊢
    rw [if_pos rfl, if_pos rfl, if_pos rfl]
    have hF : F ≠ 0 := by omega
    have hb := bitLen_log F hF (by omega)
    have hlog := Fl.log2_mul_pow F k hF
    have hlog2 : (F * 2 ^ k).log2 = 52 := by
      rw [Nat.log2_eq_iff (by omega)]
      rw [show (2 : Nat) ^ 52 = 4503599627370496 from by decide, show (2 : Nat) ^ (52 + 1) = 9007199254740992 from by decide]
      exact h
    have hk : 53 - Lib.bitLen F = k := by omega
    rw [hk]
    constructor
    · generalize F * 2 ^ k = y at *
      omega
    · omega
  · rw [if_neg hE] at h ⊢
    rw [if_neg hE, if_neg hE, if_neg hE]
    have hk : k = 0 := by
      rcases Nat.eq_zero_or_pos k with hk | hk
      · exact hk
      · exfalso
        have h2 : 2 ^ 1 ≤ 2 ^ k := Nat.pow_le_pow_right (by omega) hk
        have h3 : (F + 4503599627370496) * 2 ^ 1 ≤ (F + 4503599627370496) * 2 ^ k := Nat.mul_le_mul_left _ h2
        generalize (F + 4503599627370496) * 2 ^ k = y at *
        omega
    subst hk
    omega

theorem text_any (x : Nat) (w : World) (h : x < 18446744073709551616) :
    Calls Tryd.prog 49 #[.int .u64 x] w fun e w' => e = .returned (B (textL x)) ∧ ∃ k, w' = w.drewN k := by
  obtain ⟨neg, r, hr, hx, hn, hmod, hneg⟩ := splitW x h
  have hs : ((x : Int) / 9223372036854775808 == 1) = neg := by
    rw [hx, head_sg neg r hr]; cases neg <;> decide
  have hz : IntKind.u64.wrap ((x : Int) * 2) / 2 = (r : Int) := by
    rw [hx, head_dbl neg r hr]; omega
  have hpre : (if 9223372036854775808 ≤ x then [45] else []) = (if neg then [45] else ([] : List UInt8)) := by
    rw [← hneg]; simp
  unfold textL
  cases hnx : nan64 x with
  | true =>
    rw [hnx] at hn
    have hgt : 9218868437227405312 < r := by simpa using hn.symm
    exact (text_nan x r neg w hs hz (by omega)).mono fun e w' ⟨a, b⟩ => ⟨a, 0, b⟩
  | false =>
    rw [hnx] at hn
    have hle : r ≤ 9218868437227405312 := by simpa using hn.symm
    rw [if_neg (by decide), hpre, hmod]
    unfold sizeT
    by_cases hi : r = 9218868437227405312
    · rw [if_pos hi]
      exact (text_inf x r neg w hs hz (by omega) (by rw [beq_iff_eq]; omega)).mono fun e w' ⟨a, b⟩ => ⟨a, 0, b⟩
    · rw [if_neg hi]
      have hz2 : ((r : Int) == 9218868437227405312) = false := by rw [beq_eq_false_iff_ne]; omega
      by_cases h0 : r = 0
      · rw [if_pos h0]
        subst h0
        have hp := fun w => parts_word neg 0 (by omega) w
        rw [← hx] at hp
        exact (text_zero x 0 _ neg w hp hs hz (by omega) hz2).mono fun e w' ⟨a, b⟩ => ⟨a, 0, b⟩
      · rw [if_neg h0]
        have hp := fun w => parts_word neg r (by omega) w
        rw [← hx] at hp
        have hm0 : Fl.magOf Ieee.double r ≠ 0 := fun e => h0 ((Fl.magOf_zero Ieee.double r).1 e)
        have hmlt : Fl.magOf Ieee.double r < 9007199254740992 := Nat.lt_of_lt_of_eq (Fl.magOf_lt Ieee.double r) (by decide)
        have hpg : -1074 ≤ Fl.placeOf Ieee.double r ∧ Fl.placeOf Ieee.double r ≤ 971 := by
          unfold Fl.placeOf
          rw [Fl.bi64, Fl.lp64]
          split <;> omega
        have fin : ∀ e, TxPost (if neg then [45] else []) (Fl.magOf Ieee.double r) (Fl.placeOf Ieee.double r) e → e = .returned (B ((if neg then [45] else []) ++ sizeL (r / 4503599627370496) (r % 4503599627370496))) := by
          rintro e ⟨k, hk, rfl⟩
          obtain ⟨e1, e2⟩ := tx_parts r k h0 hk
          rw [e1, e2]
          unfold sizeL
          simp only [List.append_assoc]
        cases neg
        · exact (text_tail x _ r (Fl.magOf Ieee.double r : Nat) (Fl.magOf Ieee.double r) w hp rfl (by omega) (by omega) hpg.1 hpg.2 hs hz (by omega) hz2).mono fun e w' ⟨a, b⟩ => ⟨fin e a, b⟩
        · exact (text_tail_neg x _ r (Fl.magOf Ieee.double r : Nat) (Fl.magOf Ieee.double r) w hp rfl (by omega) (by omega) hpg.1 hpg.2 hs hz (by omega) hz2).mono fun e w' ⟨a, b⟩ => ⟨fin e a, b⟩

end Go.Proofs.YtbbikogpfpghbaaDoor
