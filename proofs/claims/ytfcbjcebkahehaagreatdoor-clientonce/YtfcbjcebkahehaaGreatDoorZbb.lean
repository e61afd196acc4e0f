/- A narrow number goes towards another one by a part of what is missing: it stays between; whole numbers as narrow ones. Whole numbers of narrow ones: cut, and rounded up by the wide kind. -/
import Derived.Test.YtfcbjcebkahehaaGreatDoorZba
namespace Go.Proofs.YtfcbjcebkahehaaGreatDoor
namespace Fl
open Ieee
/-- powers of two are numbers -/
theorem pow_rung (j : Nat) (hj : j ≤ 250) : ∃ r, r < 2139095040 ∧ sizeOf single r = 2 ^ j := by
  by_cases h : j < 23
  · refine ⟨2 ^ j, ?_, ?_⟩
    · have := Nat.pow_lt_pow_right (a := 2) (by omega) h
      have e : (2 : Nat) ^ 23 = 8388608 := by decide
      omega
    · unfold sizeOf
      rw [if_pos]
      unfold Format.binade
      rw [fb32]
      exact Nat.pow_lt_pow_right (by omega) h
  · refine ⟨(j - 22) * 8388608, by omega, ?_⟩
    unfold sizeOf
    rw [bi32, if_neg (by omega), Nat.mul_mod_left, Nat.mul_div_cancel _ (by omega), Nat.add_zero, show (8388608 : Nat) = 2 ^ 23 from by decide, ← Nat.pow_add]
    congr 1
    omega
theorem step_small (N k : Nat) (hk : 1 ≤ k) (hN : N ≤ 2 ^ 200) : RG 23 0 N < 2139095040 ∧ RG 23 k (sizeOf single (RG 23 0 N)) < 2139095040 ∧ sizeOf single (RG 23 k (sizeOf single (RG 23 0 N))) ≤ N := by
  by_cases h0 : N = 0
  · subst h0
    rw [RG_zero, size0, RG_zero, size0]
    omega
  · have hl : N.log2 ≤ 200 := by
      have := log2_mono N _ hN
      rwa [Nat.log2_two_pow] at this
    have h1 := Nat.log2_self_le h0
    have h2 := @Nat.lt_log2_self N
    obtain ⟨q, hq, hqs⟩ := pow_rung N.log2 (by omega)
    obtain ⟨q', hq', hqs'⟩ := pow_rung (N.log2 + 1) (by omega)
    have hr : RG 23 0 N ≤ q' := RG_le (by rw [hqs', Nat.pow_zero, Nat.mul_one]; omega) hq'
    have hs := size_le hr
    rw [hqs'] at hs
    have hk2 : 2 ^ (N.log2 + 1) ≤ 2 ^ N.log2 * 2 ^ k := by rw [← Nat.pow_add]; exact Nat.pow_le_pow_right (by omega) (by omega)
    have hp : RG 23 k (sizeOf single (RG 23 0 N)) ≤ q := RG_le (by rw [hqs]; omega) hq
    have hs2 := size_le hp
    rw [hqs] at hs2
    exact ⟨by omega, by omega, by omega⟩
structure Went (x a c lo hi : Nat) (neg : Bool) (r p a' : Nat) : Prop where
  sub : single.sub x a = some (single.word neg r)
  div : single.div (single.word neg r) c = some (single.word neg p)
  add : single.add a (single.word neg p) = some a'
  lo : lo ≤ a'
  hi : a' ≤ hi
  pos : neg = true → 0 < r
  is_ : r = RG 23 0 ((sizeOf single x - sizeOf single a) + (sizeOf single a - sizeOf single x))
  fin : r < 2139095040
theorem goes (k c : Nat) (hk : 1 ≤ k) (hc : single.read c = .number false 8388608 ((k : Int) - 23)) (a x lo hi : Nat) (h1 : lo ≤ a) (h2 : a ≤ hi) (h3 : lo ≤ x) (h4 : x ≤ hi) (h5 : hi < 2139095040) (hB : sizeOf single hi ≤ 2 ^ 200) :
    ∃ neg r p a', Went x a c lo hi neg r p a' := by
  obtain ⟨s1, s2⟩ := sub_pos x a (by omega) (by omega)
  have m1 := size_le h2
  have m2 := size_le h4
  rcases Nat.lt_or_ge x a with hlt | hge
  · have hs := sizeOf_lt single hlt
    obtain ⟨t1, t2, t3⟩ := step_small (sizeOf single a - sizeOf single x) k hk (by omega)
    have hpa : RG 23 k (sizeOf single (RG 23 0 (sizeOf single a - sizeOf single x))) ≤ a := size_le' (by omega)
    have hd := div_pow c k hc true (RG 23 0 (sizeOf single a - sizeOf single x)) t1
    rw [Nat.min_eq_left (by omega)] at hd
    refine ⟨true, _, _, _, s2 hlt, hd, add_neg a _ (by omega) hpa, ?_, ?_, ?_, ?_, t1⟩
    · refine Nat.le_trans h3 (RG_ge (by rw [Nat.pow_zero, Nat.mul_one]; omega) (by omega))
    · refine Nat.le_trans (RG_le (r := a) (by rw [Nat.pow_zero, Nat.mul_one]; omega) (by omega)) h2
    · intro _
      exact RG_ge (r := 1) (by rw [size1]; omega) (by omega)
    · congr 1; omega
  · have hs := size_le hge
    obtain ⟨t1, t2, t3⟩ := step_small (sizeOf single x - sizeOf single a) k hk (by omega)
    have hd := div_pow c k hc false (RG 23 0 (sizeOf single x - sizeOf single a)) t1
    rw [Nat.min_eq_left (by omega)] at hd
    have hx : RG 23 0 (sizeOf single a + sizeOf single (RG 23 k (sizeOf single (RG 23 0 (sizeOf single x - sizeOf single a))))) ≤ x := RG_le (by rw [Nat.pow_zero, Nat.mul_one]; omega) (by omega)
    refine ⟨false, _, _, _, s1 hge, hd, add_pos a _ (by omega) t2 (by omega), ?_, ?_, ?_, ?_, t1⟩
    · exact Nat.le_trans h1 (RG_ge (by rw [Nat.pow_zero, Nat.mul_one]; omega) (by omega))
    · exact Nat.le_trans hx h4
    · intro h; cases h
    · congr 1; omega
/-- a whole number as a narrow one -/
def fI (n : Nat) : Nat := RG 23 0 (n * 2 ^ 149)
theorem hsum (L : Int) (h1 : L ≤ 0) (h2 : -149 ≤ L) : (0 - L).toNat + (L - -149).toNat = 149 := by omega
theorem int_rung (n : Nat) (h : n < 16777216) : ∃ r, r < 2139095040 ∧ sizeOf single r = n * 2 ^ 149 := by
  by_cases h0 : n = 0
  · subst h0; exact ⟨0, by omega, by rw [size0, Nat.zero_mul]⟩
  · have h24 : n < 2 ^ (single.fractionBits + 1) := by rw [fb32]; exact h
    have hp : single.leastPlace ≤ (0 : Int) := by rw [lp32]; omega
    have hll := log2_le single n h24
    have hr : rungOf single n 0 < single.infRung := by
      have := rungOf_lt single n 0 h0 h24 hp 250 (by rw [fb32, lp32]; rw [fb32] at hll; omega) (by omega)
      rw [bi32] at this; rw [inf32]; omega
    have hla := lastOf_le single n 0 h24 hp
    have hlb : -149 ≤ lastOf single n 0 := by unfold lastOf; rw [lp32]; omega
    obtain ⟨q1, q2⟩ := parts_rungOf single n 0 h0 h24 hp
    refine ⟨rungOf single n 0, by rw [inf32] at hr; exact hr, ?_⟩
    rw [sizeOf_parts, q1, q2, lp32, Nat.mul_assoc, ← Nat.pow_add, hsum _ hla hlb]
theorem fI_size (n : Nat) (h : n < 16777216) : sizeOf single (fI n) = n * 2 ^ 149 := by
  obtain ⟨r, h1, h2⟩ := int_rung n h
  unfold fI
  rw [← h2, RG_size32 r h1]
theorem fI_lt (n : Nat) (h : n < 16777216) : fI n < 2139095040 := by
  obtain ⟨r, h1, h2⟩ := int_rung n h
  unfold fI
  rw [← h2, RG_size32 r h1]
  exact h1
theorem fI_mono {n m : Nat} (h : n ≤ m) : fI n ≤ fI m := RG_mono 23 0 _ _ (Nat.mul_le_mul_right _ h)
theorem ofI (n : Nat) (h : n < 16777216) : floatOfInt .f32 (n : Int) = fI n := by
  rw [ofInt32]
  have e : single.nearest false n 0 = single.nearest false (n * 2 ^ 149) (-149) := by
    by_cases h0 : n = 0
    · subst h0; rw [Nat.zero_mul, nearest_zero, nearest_zero]
    · have e9 : (-149 : Int) + ((149 : Nat) : Int) = 0 := by decide
      rw [nearest_shift single false n 149 _ h0, e9]
  have h2 := fI_lt n h
  rw [e, near32z, word_false]
  exact Nat.min_eq_left (Nat.le_of_lt h2)
theorem fI0 : fI 0 = 0 := by unfold fI; rw [Nat.zero_mul, RG_zero]
theorem fI20 : fI 1048576 = 1233125376 := by decide +kernel
theorem eight32 : single.read 1090519040 = .number false 8388608 (((3 : Nat) : Int) - 23) := by decide
theorem fourth32 : single.read 1082130432 = .number false 8388608 (((2 : Nat) : Int) - 23) := by decide
theorem twice32 : single.read 1073741824 = .number false 8388608 (((1 : Nat) : Int) - 23) := by decide
theorem top_size : sizeOf single 1233125376 = 1048576 * 2 ^ 149 := by rw [← fI20]; exact fI_size _ (by omega)
theorem top_200 {r : Nat} (h : r ≤ 1233125376) : sizeOf single r ≤ 2 ^ 200 := by
  have h1 := size_le h
  rw [top_size] at h1
  have : (1048576 : Nat) * 2 ^ 149 ≤ 2 ^ 200 := by decide +kernel
  omega
/-- the half of the first -/
theorem half_fin (x : Nat) (h : x ≤ 1233125376) : ∃ y, single.div x 1073741824 = some y ∧ y ≤ x := by
  have h1 := div_pow 1073741824 1 twice32 false x (by omega)
  have h2 : RG 23 1 (sizeOf single x) ≤ x := RG_le (by rw [Nat.pow_one]; omega) (by omega)
  rw [word_false, word_false, Nat.min_eq_left (by omega)] at h1
  exact ⟨_, h1, h2⟩
end Fl
end Go.Proofs.YtfcbjcebkahehaaGreatDoor
namespace Go.Proofs.YtfcbjcebkahehaaGreatDoor
namespace Fl
open Ieee
def cdiv (n D : Nat) : Nat := n / D + (if n % D = 0 then 0 else 1)
theorem cut_up (n d : Nat) : Toward.up.cut false n d = cdiv n (2 ^ d) := by
  have key : ∀ g, (n / g + (!false && n % g != 0).toNat) = cdiv n g := by
    intro g
    unfold cdiv
    by_cases h : n % g = 0
    · rw [if_pos h, h]; rfl
    · rw [if_neg h]
      have : (n % g != 0) = true := by simp [h]
      rw [this]; rfl
  show n / (1 <<< min d (n.log2 + 2)) + _ = _
  by_cases hd : d ≤ n.log2 + 2
  · rw [Nat.min_eq_left hd, Nat.one_shiftLeft]
    exact key (2 ^ d)
  · rw [Nat.min_eq_right (by omega), Nat.one_shiftLeft]
    refine (key _).trans ?_
    have h1 : n < 2 ^ (n.log2 + 1) := Nat.lt_log2_self
    have h2 : 2 ^ (n.log2 + 2) = 2 * 2 ^ (n.log2 + 1) := by rw [← Nat.pow_succ']
    have h3 : 2 ^ (n.log2 + 2) ≤ 2 ^ d := Nat.pow_le_pow_right (by omega) (by omega)
    unfold cdiv
    generalize 2 ^ (n.log2 + 1) = a at *
    generalize 2 ^ (n.log2 + 2) = b at *
    generalize 2 ^ d = c at *
    rw [Nat.div_eq_of_lt (by omega : n < b), Nat.div_eq_of_lt (by omega : n < c), Nat.mod_eq_of_lt (by omega : n < b), Nat.mod_eq_of_lt (by omega : n < c)]
theorem cut_zr (n d : Nat) : Toward.zero.cut false n d = n / 2 ^ d := by
  show n / (1 <<< min d (n.log2 + 2)) + 0 = _
  by_cases hd : d ≤ n.log2 + 2
  · rw [Nat.min_eq_left hd, Nat.one_shiftLeft, Nat.add_zero]
  · rw [Nat.min_eq_right (by omega), Nat.one_shiftLeft, Nat.add_zero]
    have h1 : n < 2 ^ (n.log2 + 1) := Nat.lt_log2_self
    have h2 : 2 ^ (n.log2 + 2) = 2 * 2 ^ (n.log2 + 1) := by rw [← Nat.pow_succ']
    have h3 : 2 ^ (n.log2 + 2) ≤ 2 ^ d := Nat.pow_le_pow_right (by omega) (by omega)
    generalize 2 ^ (n.log2 + 1) = a at *
    generalize 2 ^ (n.log2 + 2) = b at *
    generalize 2 ^ d = c at *
    rw [Nat.div_eq_of_lt (by omega : n < b), Nat.div_eq_of_lt (by omega : n < c)]
theorem cdiv_mul (n D k : Nat) (hk : 0 < k) : cdiv (n * k) (D * k) = cdiv n D := by
  unfold cdiv
  rw [Nat.mul_div_mul_right _ _ hk, Nat.mul_mod_mul_right]
  by_cases h : n % D = 0
  · rw [h, Nat.zero_mul, if_pos rfl]
  · rw [if_neg h, if_neg (Nat.mul_ne_zero h (by omega))]
theorem cdiv_ratio {n D n' E : Nat} (h : n * E = n' * D) (hD : 0 < D) (hE : 0 < E) : cdiv n D = cdiv n' E := by
  rw [← cdiv_mul n D E hE, ← cdiv_mul n' E D hD, h, Nat.mul_comm D E]
theorem div_ratio {n D n' E : Nat} (h : n * E = n' * D) (hD : 0 < D) (hE : 0 < E) : n / D = n' / E := by
  rw [← Nat.mul_div_mul_right n D hE, ← Nat.mul_div_mul_right n' E hD, h, Nat.mul_comm D E]
theorem pw1 (i : Int) (h : -149 ≤ i) : i.toNat + 149 = (i - -149).toNat + (-i).toNat := by omega
theorem pw2 (i L : Int) (h : -149 ≤ i) (hL : L ≤ i) : (i - L).toNat + L.toNat + 149 = (i - -149).toNat + (-L).toNat := by omega
/-- how many whole ones -/
def wholes (g : Nat) : Nat := sizeOf single g / 2 ^ 149
def ups (g : Nat) : Nat := cdiv (sizeOf single g) (2 ^ 149)
theorem trunc32 (g : Nat) (hg : g < 2139095040) : (single.read g).toInt .zero = some ((wholes g : Nat) : Int) := by
  have hr := read_number single false g (by rw [inf32]; exact hg)
  rw [word_false] at hr
  have hp := placeOf_ge single g
  rw [lp32] at hp
  have hs := sizeOf_parts single g
  rw [lp32] at hs
  rw [hr]
  unfold Datum.toInt Datum.integral
  dsimp only
  rw [cut_zr]
  have e : magOf single g <<< (placeOf single g).toNat / 2 ^ (-placeOf single g).toNat = wholes g := by
    unfold wholes
    refine div_ratio ?_ (Nat.two_pow_pos _) (Nat.two_pow_pos _)
    rw [hs, Nat.shiftLeft_eq, Nat.mul_assoc, Nat.mul_assoc, ← Nat.pow_add, ← Nat.pow_add, pw1 _ hp]
  rw [e]
  simp [signed]
theorem toInt32 (g : Nat) (hg : g < 2139095040) (h : wholes g ≤ 1000000000000) : floatToIntVal .f32 g .i64 = some ((wholes g : Nat) : Int) := by
  unfold floatToIntVal FloatKind.decode
  show (match ((single.read g).toInt .zero) with | some n => if IntKind.i64.min ≤ n ∧ n ≤ IntKind.i64.max then some n else none | none => none) = _
  rw [trunc32 g hg]
  have : (-9223372036854775808 : Int) ≤ (wholes g : Int) ∧ (wholes g : Int) ≤ 9223372036854775807 := by omega
  show (if (-9223372036854775808 : Int) ≤ (wholes g : Int) ∧ (wholes g : Int) ≤ 9223372036854775807 then _ else _) = _
  rw [if_pos this]
theorem toInt64 (n : Nat) (h : n < 2 ^ 53) : floatToIntVal .f64 (double.nearest false n 0) .i64 = some (n : Int) := by
  unfold floatToIntVal FloatKind.decode
  show (match ((double.read (double.nearest false n 0)).toInt .zero) with | some n => if IntKind.i64.min ≤ n ∧ n ≤ IntKind.i64.max then some n else none | none => none) = _
  have hv : (double.read (double.nearest false n 0)).toInt .zero = some (n : Int) := by
    by_cases h0 : n = 0
    · subst h0; decide
    · have hp : double.leastPlace ≤ (0 : Int) := by rw [lp64]; omega
      have hr : rungOf double n 0 < double.infRung := by
        have hl := log2_le double n h
        rw [fb64] at hl
        have := rungOf_lt double n 0 h0 h hp 2000 (by rw [fb64, lp64]; omega) (by omega)
        rw [bi64] at this; rw [inf64]; omega
      have hl := lastOf_le double n 0 h hp
      rw [read_nearest double false n 0 h0 h hp hr]
      unfold Datum.toInt Datum.integral
      have e1 : (lastOf double n 0).toNat = 0 := by omega
      have e2 : (-lastOf double n 0).toNat = (0 - lastOf double n 0).toNat := by omega
      dsimp only
      rw [e1, e2, Nat.shiftLeft_zero, cutz n _ h0]
      simp [signed]
  rw [hv]
  have : (-9223372036854775808 : Int) ≤ (n : Int) ∧ (n : Int) ≤ 9223372036854775807 := by
    have : (2 : Nat) ^ 53 = 9007199254740992 := by decide
    omega
  show (if (-9223372036854775808 : Int) ≤ (n : Int) ∧ (n : Int) ≤ 9223372036854775807 then _ else _) = _
  rw [if_pos this]
/-- a narrow number made wide, and what the wide one is -/
theorem wide (g : Nat) (hg : g < 2139095040) : ∃ W m L, floatToFloatBits .f32 g .f64 = some W ∧ double.read W = .number false m L ∧ (Datum.number false m L).integral .up = .number false (ups g) 0 := by
  have hr := read_number single false g (by rw [inf32]; exact hg)
  rw [word_false] at hr
  have hp := placeOf_ge single g
  rw [lp32] at hp
  have hs := sizeOf_parts single g
  rw [lp32] at hs
  have hm := magOf_lt single g
  rw [fb32] at hm
  have key : ∃ m L, double.read (double.nearest false (magOf single g) (placeOf single g)) = .number false m L ∧ (Datum.number false m L).integral .up = .number false (ups g) 0 := by
    by_cases h0 : magOf single g = 0
    · refine ⟨0, -1074, ?_, ?_⟩
      · rw [h0, nearest_zero]; decide
      · unfold Datum.integral ups
        dsimp only
        rw [hs, h0, Nat.zero_mul, cut_up]
        have z : ∀ D, cdiv 0 D = 0 := fun D => by unfold cdiv; rw [Nat.zero_div, Nat.zero_mod, if_pos rfl]
        rw [z, show (0 : Nat) <<< ((-1074 : Int)).toNat = 0 from by rw [Nat.zero_shiftLeft], z]
    · have hm2 : magOf single g < 2 ^ (double.fractionBits + 1) := by
        rw [fb64]
        exact Nat.lt_trans hm (by decide)
      have hp2 : double.leastPlace ≤ placeOf single g := by rw [lp64]; omega
      have hl2 := log2_le double _ hm2
      rw [fb64] at hl2
      have hpu : placeOf single g ≤ 200 := by
        unfold placeOf
        split
        · rw [lp32]; omega
        · rw [lp32, bi32]; omega
      have hri : rungOf double (magOf single g) (placeOf single g) < double.infRung := by
        have := rungOf_lt double _ _ h0 hm2 hp2 1400 (by rw [fb64, lp64]; omega) (by omega)
        rw [bi64] at this; rw [inf64]; omega
      have hL := lastOf_le double _ _ hm2 hp2
      refine ⟨_, _, read_nearest double false _ _ h0 hm2 hp2 hri, ?_⟩
      unfold Datum.integral ups
      dsimp only
      rw [cut_up]
      congr 1
      refine cdiv_ratio ?_ (Nat.two_pow_pos _) (Nat.two_pow_pos _)
      rw [hs, Nat.shiftLeft_eq, Nat.mul_assoc, Nat.mul_assoc, Nat.mul_assoc, ← Nat.pow_add, ← Nat.pow_add, ← Nat.pow_add, ← Nat.add_assoc, pw2 _ _ hp hL]
  obtain ⟨m, L, h1, h2⟩ := key
  refine ⟨double.nearest false (magOf single g) (placeOf single g), m, L, ?_, h1, h2⟩
  unfold floatToFloatBits FloatKind.decode
  rw [if_neg (by decide)]
  show (match single.read g with | .nan _ _ => none | .infinity s => some (FloatKind.f64.encode (.infinity s)) | .number s m e => if (double.read (double.nearest s m e)).isInfinity then none else some (double.nearest s m e)) = _
  rw [hr]
  dsimp only
  rw [h1]
  rfl
end Fl
end Go.Proofs.YtfcbjcebkahehaaGreatDoor
