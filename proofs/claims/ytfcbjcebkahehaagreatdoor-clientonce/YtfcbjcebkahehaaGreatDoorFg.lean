/- Whole numbers of narrow ones: cut, and rounded up by the wide kind. -/
import Derived.Test.YtfcbjcebkahehaaGreatDoorZbq
namespace Go.Proofs.YtfcbjcebkahehaaGreatDoor
namespace Fl
open Ieee
def cdiv (n D : Nat) : Nat := n / D + (if n % D = 0 then 0 else 1)
theorem cut_up (n d : Nat) : Toward.up.cut false n d = cdiv n (2 ^ d) := by
  have key : ∀ g, (n / g + (!false && n % g != 0).toNat) = cdiv n g := by
    intro g
    unfold cdiv
    by_cases h : n % g = 0
    · rw [if_pos h, h]; rfl
    · rw [if_neg h]
      have : (n % g != 0) = true := by simp [h]
      rw [this]; rfl
  show n / (1 <<< min d (n.log2 + 2)) + _ = _
  by_cases hd : d ≤ n.log2 + 2
  · rw [Nat.min_eq_left hd, Nat.one_shiftLeft]
    exact key (2 ^ d)
  · rw [Nat.min_eq_right (by omega), Nat.one_shiftLeft]
    refine (key _).trans ?_
    have h1 : n < 2 ^ (n.log2 + 1) := Nat.lt_log2_self
    have h2 : 2 ^ (n.log2 + 2) = 2 * 2 ^ (n.log2 + 1) := by rw [← Nat.pow_succ']
    have h3 : 2 ^ (n.log2 + 2) ≤ 2 ^ d := Nat.pow_le_pow_right (by omega) (by omega)
    unfold cdiv
    generalize 2 ^ (n.log2 + 1) = a at *
    generalize 2 ^ (n.log2 + 2) = b at *
    generalize 2 ^ d = c at *
    rw [Nat.div_eq_of_lt (by omega : n < b), Nat.div_eq_of_lt (by omega : n < c), Nat.mod_eq_of_lt (by omega : n < b), Nat.mod_eq_of_lt (by omega : n < c)]
theorem cut_zr (n d : Nat) : Toward.zero.cut false n d = n / 2 ^ d := by
  show n / (1 <<< min d (n.log2 + 2)) + 0 = _
  by_cases hd : d ≤ n.log2 + 2
  · rw [Nat.min_eq_left hd, Nat.one_shiftLeft, Nat.add_zero]
  · rw [Nat.min_eq_right (by omega), Nat.one_shiftLeft, Nat.add_zero]
    have h1 : n < 2 ^ (n.log2 + 1) := Nat.lt_log2_self
    have h2 : 2 ^ (n.log2 + 2) = 2 * 2 ^ (n.log2 + 1) := by rw [← Nat.pow_succ']
    have h3 : 2 ^ (n.log2 + 2) ≤ 2 ^ d := Nat.pow_le_pow_right (by omega) (by omega)
    generalize 2 ^ (n.log2 + 1) = a at *
    generalize 2 ^ (n.log2 + 2) = b at *
    generalize 2 ^ d = c at *
    rw [Nat.div_eq_of_lt (by omega : n < b), Nat.div_eq_of_lt (by omega : n < c)]
theorem cdiv_mul (n D k : Nat) (hk : 0 < k) : cdiv (n * k) (D * k) = cdiv n D := by
  unfold cdiv
  rw [Nat.mul_div_mul_right _ _ hk, Nat.mul_mod_mul_right]
  by_cases h : n % D = 0
  · rw [h, Nat.zero_mul, if_pos rfl]
  · rw [if_neg h, if_neg (Nat.mul_ne_zero h (by omega))]
theorem cdiv_ratio {n D n' E : Nat} (h : n * E = n' * D) (hD : 0 < D) (hE : 0 < E) : cdiv n D = cdiv n' E := by
  rw [← cdiv_mul n D E hE, ← cdiv_mul n' E D hD, h, Nat.mul_comm D E]
theorem div_ratio {n D n' E : Nat} (h : n * E = n' * D) (hD : 0 < D) (hE : 0 < E) : n / D = n' / E := by
  rw [← Nat.mul_div_mul_right n D hE, ← Nat.mul_div_mul_right n' E hD, h, Nat.mul_comm D E]
theorem pw1 (i : Int) (h : -149 ≤ i) : i.toNat + 149 = (i - -149).toNat + (-i).toNat := by omega
theorem pw2 (i L : Int) (h : -149 ≤ i) (hL : L ≤ i) : (i - L).toNat + L.toNat + 149 = (i - -149).toNat + (-L).toNat := by omega
/-- how many whole ones -/
def wholes (g : Nat) : Nat := sizeOf single g / 2 ^ 149
def ups (g : Nat) : Nat := cdiv (sizeOf single g) (2 ^ 149)
theorem trunc32 (g : Nat) (hg : g < 2139095040) : (single.read g).toInt .zero = some ((wholes g : Nat) : Int) := by
  have hr := read_number single false g (by rw [inf32]; exact hg)
  rw [word_false] at hr
  have hp := placeOf_ge single g
  rw [lp32] at hp
  have hs := sizeOf_parts single g
  rw [lp32] at hs
  rw [hr]
  unfold Datum.toInt Datum.integral
  dsimp only
  rw [cut_zr]
  have e : magOf single g <<< (placeOf single g).toNat / 2 ^ (-placeOf single g).toNat = wholes g := by
    unfold wholes
    refine div_ratio ?_ (Nat.two_pow_pos _) (Nat.two_pow_pos _)
    rw [hs, Nat.shiftLeft_eq, Nat.mul_assoc, Nat.mul_assoc, ← Nat.pow_add, ← Nat.pow_add, pw1 _ hp]
  rw [e]
  simp [signed]
theorem toInt32 (g : Nat) (hg : g < 2139095040) (h : wholes g ≤ 1000000000000) : floatToIntVal .f32 g .i64 = some ((wholes g : Nat) : Int) := by
  unfold floatToIntVal FloatKind.decode
  show (match ((single.read g).toInt .zero) with | some n => if IntKind.i64.min ≤ n ∧ n ≤ IntKind.i64.max then some n else none | none => none) = _
  rw [trunc32 g hg]
  have : (-9223372036854775808 : Int) ≤ (wholes g : Int) ∧ (wholes g : Int) ≤ 9223372036854775807 := by omega
  show (if (-9223372036854775808 : Int) ≤ (wholes g : Int) ∧ (wholes g : Int) ≤ 9223372036854775807 then _ else _) = _
  rw [if_pos this]
theorem toInt64 (n : Nat) (h : n < 2 ^ 53) : floatToIntVal .f64 (double.nearest false n 0) .i64 = some (n : Int) := by
  unfold floatToIntVal FloatKind.decode
  show (match ((double.read (double.nearest false n 0)).toInt .zero) with | some n => if IntKind.i64.min ≤ n ∧ n ≤ IntKind.i64.max then some n else none | none => none) = _
  have hv : (double.read (double.nearest false n 0)).toInt .zero = some (n : Int) := by
    by_cases h0 : n = 0
    · subst h0; decide
    · have hp : double.leastPlace ≤ (0 : Int) := by rw [lp64]; omega
      have hr : rungOf double n 0 < double.infRung := by
        have hl := log2_le double n h
        rw [fb64] at hl
        have := rungOf_lt double n 0 h0 h hp 2000 (by rw [fb64, lp64]; omega) (by omega)
        rw [bi64] at this; rw [inf64]; omega
      have hl := lastOf_le double n 0 h hp
      rw [read_nearest double false n 0 h0 h hp hr]
      unfold Datum.toInt Datum.integral
      have e1 : (lastOf double n 0).toNat = 0 := by omega
      have e2 : (-lastOf double n 0).toNat = (0 - lastOf double n 0).toNat := by omega
      dsimp only
      rw [e1, e2, Nat.shiftLeft_zero, cutz n _ h0]
      simp [signed]
  rw [hv]
  have : (-9223372036854775808 : Int) ≤ (n : Int) ∧ (n : Int) ≤ 9223372036854775807 := by
    have : (2 : Nat) ^ 53 = 9007199254740992 := by decide
    omega
  show (if (-9223372036854775808 : Int) ≤ (n : Int) ∧ (n : Int) ≤ 9223372036854775807 then _ else _) = _
  rw [if_pos this]
/-- a narrow number made wide, and what the wide one is -/
theorem wide (g : Nat) (hg : g < 2139095040) : ∃ W m L, floatToFloatBits .f32 g .f64 = some W ∧ double.read W = .number false m L ∧ (Datum.number false m L).integral .up = .number false (ups g) 0 := by
  have hr := read_number single false g (by rw [inf32]; exact hg)
  rw [word_false] at hr
  have hp := placeOf_ge single g
  rw [lp32] at hp
  have hs := sizeOf_parts single g
  rw [lp32] at hs
  have hm := magOf_lt single g
  rw [fb32] at hm
  have key : ∃ m L, double.read (double.nearest false (magOf single g) (placeOf single g)) = .number false m L ∧ (Datum.number false m L).integral .up = .number false (ups g) 0 := by
    by_cases h0 : magOf single g = 0
    · refine ⟨0, -1074, ?_, ?_⟩
      · rw [h0, nearest_zero]; decide
      · unfold Datum.integral ups
        dsimp only
        rw [hs, h0, Nat.zero_mul, cut_up]
        have z : ∀ D, cdiv 0 D = 0 := fun D => by unfold cdiv; rw [Nat.zero_div, Nat.zero_mod, if_pos rfl]
        rw [z, show (0 : Nat) <<< ((-1074 : Int)).toNat = 0 from by rw [Nat.zero_shiftLeft], z]
    · have hm2 : magOf single g < 2 ^ (double.fractionBits + 1) := by
        rw [fb64]
        exact Nat.lt_trans hm (by decide)
      have hp2 : double.leastPlace ≤ placeOf single g := by rw [lp64]; omega
      have hl2 := log2_le double _ hm2
      rw [fb64] at hl2
      have hpu : placeOf single g ≤ 200 := by
        unfold placeOf
        split
        · rw [lp32]; omega
        · rw [lp32, bi32]; omega
      have hri : rungOf double (magOf single g) (placeOf single g) < double.infRung := by
        have := rungOf_lt double _ _ h0 hm2 hp2 1400 (by rw [fb64, lp64]; omega) (by omega)
        rw [bi64] at this; rw [inf64]; omega
      have hL := lastOf_le double _ _ hm2 hp2
      refine ⟨_, _, read_nearest double false _ _ h0 hm2 hp2 hri, ?_⟩
      unfold Datum.integral ups
      dsimp only
      rw [cut_up]
      congr 1
      refine cdiv_ratio ?_ (Nat.two_pow_pos _) (Nat.two_pow_pos _)
      rw [hs, Nat.shiftLeft_eq, Nat.mul_assoc, Nat.mul_assoc, Nat.mul_assoc, ← Nat.pow_add, ← Nat.pow_add, ← Nat.pow_add, ← Nat.add_assoc, pw2 _ _ hp hL]
  obtain ⟨m, L, h1, h2⟩ := key
  refine ⟨double.nearest false (magOf single g) (placeOf single g), m, L, ?_, h1, h2⟩
  unfold floatToFloatBits FloatKind.decode
  rw [if_neg (by decide)]
  show (match single.read g with | .nan _ _ => none | .infinity s => some (FloatKind.f64.encode (.infinity s)) | .number s m e => if (double.read (double.nearest s m e)).isInfinity then none else some (double.nearest s m e)) = _
  rw [hr]
  dsimp only
  rw [h1]
  rfl
end Fl
end Go.Proofs.YtfcbjcebkahehaaGreatDoor
