/- A narrow number goes towards another one by a part of what is missing: it stays between; whole numbers as narrow ones. -/
import Derived.Test.YtpimdiliibokbaaBoFe
namespace Go.Proofs.Ytpimdiliibokbaa
namespace Fl
open Ieee
/-- powers of two are numbers -/
theorem pow_rung (j : Nat) (hj : j ≤ 250) : ∃ r, r < 2139095040 ∧ sizeOf single r = 2 ^ j := by
  by_cases h : j < 23
  · refine ⟨2 ^ j, ?_, ?_⟩
    · have := Nat.pow_lt_pow_right (a := 2) (by omega) h
      have e : (2 : Nat) ^ 23 = 8388608 := by decide
      omega
    · unfold sizeOf
      rw [if_pos]
      unfold Format.binade
      rw [fb32]
      exact Nat.pow_lt_pow_right (by omega) h
  · refine ⟨(j - 22) * 8388608, by omega, ?_⟩
    unfold sizeOf
    rw [bi32, if_neg (by omega), Nat.mul_mod_left, Nat.mul_div_cancel _ (by omega), Nat.add_zero, show (8388608 : Nat) = 2 ^ 23 from by decide, ← Nat.pow_add]
    congr 1
    omega
theorem step_small (N k : Nat) (hk : 1 ≤ k) (hN : N ≤ 2 ^ 200) : RG 23 0 N < 2139095040 ∧ RG 23 k (sizeOf single (RG 23 0 N)) < 2139095040 ∧ sizeOf single (RG 23 k (sizeOf single (RG 23 0 N))) ≤ N := by
  by_cases h0 : N = 0
  · subst h0
    rw [RG_zero, size0, RG_zero, size0]
    omega
  · have hl : N.log2 ≤ 200 := by
      have := log2_mono N _ hN
      rwa [Nat.log2_two_pow] at this
    have h1 := Nat.log2_self_le h0
    have h2 := @Nat.lt_log2_self N
    obtain ⟨q, hq, hqs⟩ := pow_rung N.log2 (by omega)
    obtain ⟨q', hq', hqs'⟩ := pow_rung (N.log2 + 1) (by omega)
    have hr : RG 23 0 N ≤ q' := RG_le (by rw [hqs', Nat.pow_zero, Nat.mul_one]; omega) hq'
    have hs := size_le hr
    rw [hqs'] at hs
    have hk2 : 2 ^ (N.log2 + 1) ≤ 2 ^ N.log2 * 2 ^ k := by rw [← Nat.pow_add]; exact Nat.pow_le_pow_right (by omega) (by omega)
    have hp : RG 23 k (sizeOf single (RG 23 0 N)) ≤ q := RG_le (by rw [hqs]; omega) hq
    have hs2 := size_le hp
    rw [hqs] at hs2
    exact ⟨by omega, by omega, by omega⟩
structure Went (x a c lo hi : Nat) (neg : Bool) (r p a' : Nat) : Prop where
  sub : single.sub x a = some (single.word neg r)
  div : single.div (single.word neg r) c = some (single.word neg p)
  add : single.add a (single.word neg p) = some a'
  lo : lo ≤ a'
  hi : a' ≤ hi
  pos : neg = true → 0 < r
  is_ : r = RG 23 0 ((sizeOf single x - sizeOf single a) + (sizeOf single a - sizeOf single x))
  fin : r < 2139095040
theorem goes (k c : Nat) (hk : 1 ≤ k) (hc : single.read c = .number false 8388608 ((k : Int) - 23)) (a x lo hi : Nat) (h1 : lo ≤ a) (h2 : a ≤ hi) (h3 : lo ≤ x) (h4 : x ≤ hi) (h5 : hi < 2139095040) (hB : sizeOf single hi ≤ 2 ^ 200) :
    ∃ neg r p a', Went x a c lo hi neg r p a' := by
  obtain ⟨s1, s2⟩ := sub_pos x a (by omega) (by omega)
  have m1 := size_le h2
  have m2 := size_le h4
  rcases Nat.lt_or_ge x a with hlt | hge
  · have hs := sizeOf_lt single hlt
    obtain ⟨t1, t2, t3⟩ := step_small (sizeOf single a - sizeOf single x) k hk (by omega)
    have hpa : RG 23 k (sizeOf single (RG 23 0 (sizeOf single a - sizeOf single x))) ≤ a := size_le' (by omega)
    have hd := div_pow c k hc true (RG 23 0 (sizeOf single a - sizeOf single x)) t1
    rw [Nat.min_eq_left (by omega)] at hd
    refine ⟨true, _, _, _, s2 hlt, hd, add_neg a _ (by omega) hpa, ?_, ?_, ?_, ?_, t1⟩
    · refine Nat.le_trans h3 (RG_ge (by rw [Nat.pow_zero, Nat.mul_one]; omega) (by omega))
    · refine Nat.le_trans (RG_le (r := a) (by rw [Nat.pow_zero, Nat.mul_one]; omega) (by omega)) h2
    · intro _
      exact RG_ge (r := 1) (by rw [size1]; omega) (by omega)
    · congr 1; omega
  · have hs := size_le hge
    obtain ⟨t1, t2, t3⟩ := step_small (sizeOf single x - sizeOf single a) k hk (by omega)
    have hd := div_pow c k hc false (RG 23 0 (sizeOf single x - sizeOf single a)) t1
    rw [Nat.min_eq_left (by omega)] at hd
    have hx : RG 23 0 (sizeOf single a + sizeOf single (RG 23 k (sizeOf single (RG 23 0 (sizeOf single x - sizeOf single a))))) ≤ x := RG_le (by rw [Nat.pow_zero, Nat.mul_one]; omega) (by omega)
    refine ⟨false, _, _, _, s1 hge, hd, add_pos a _ (by omega) t2 (by omega), ?_, ?_, ?_, ?_, t1⟩
    · exact Nat.le_trans h1 (RG_ge (by rw [Nat.pow_zero, Nat.mul_one]; omega) (by omega))
    · exact Nat.le_trans hx h4
    · intro h; cases h
    · congr 1; omega
/-- a whole number as a narrow one -/
def fI (n : Nat) : Nat := RG 23 0 (n * 2 ^ 149)
theorem hsum (L : Int) (h1 : L ≤ 0) (h2 : -149 ≤ L) : (0 - L).toNat + (L - -149).toNat = 149 := by omega
theorem int_rung (n : Nat) (h : n < 16777216) : ∃ r, r < 2139095040 ∧ sizeOf single r = n * 2 ^ 149 := by
  by_cases h0 : n = 0
  · subst h0; exact ⟨0, by omega, by rw [size0, Nat.zero_mul]⟩
  · have h24 : n < 2 ^ (single.fractionBits + 1) := by rw [fb32]; exact h
    have hp : single.leastPlace ≤ (0 : Int) := by rw [lp32]; omega
    have hll := log2_le single n h24
    have hr : rungOf single n 0 < single.infRung := by
      have := rungOf_lt single n 0 h0 h24 hp 250 (by rw [fb32, lp32]; rw [fb32] at hll; omega) (by omega)
      rw [bi32] at this; rw [inf32]; omega
    have hla := lastOf_le single n 0 h24 hp
    have hlb : -149 ≤ lastOf single n 0 := by unfold lastOf; rw [lp32]; omega
    obtain ⟨q1, q2⟩ := parts_rungOf single n 0 h0 h24 hp
    refine ⟨rungOf single n 0, by rw [inf32] at hr; exact hr, ?_⟩
    rw [sizeOf_parts, q1, q2, lp32, Nat.mul_assoc, ← Nat.pow_add, hsum _ hla hlb]
theorem fI_size (n : Nat) (h : n < 16777216) : sizeOf single (fI n) = n * 2 ^ 149 := by
  obtain ⟨r, h1, h2⟩ := int_rung n h
  unfold fI
  rw [← h2, RG_size32 r h1]
theorem fI_lt (n : Nat) (h : n < 16777216) : fI n < 2139095040 := by
  obtain ⟨r, h1, h2⟩ := int_rung n h
  unfold fI
  rw [← h2, RG_size32 r h1]
  exact h1
theorem fI_mono {n m : Nat} (h : n ≤ m) : fI n ≤ fI m := RG_mono 23 0 _ _ (Nat.mul_le_mul_right _ h)
theorem ofI (n : Nat) (h : n < 16777216) : floatOfInt .f32 (n : Int) = fI n := by
  rw [ofInt32]
  have e : single.nearest false n 0 = single.nearest false (n * 2 ^ 149) (-149) := by
    by_cases h0 : n = 0
    · subst h0; rw [Nat.zero_mul, nearest_zero, nearest_zero]
    · have e9 : (-149 : Int) + ((149 : Nat) : Int) = 0 := by decide
      rw [nearest_shift single false n 149 _ h0, e9]
  have h2 := fI_lt n h
  rw [e, near32z, word_false]
  exact Nat.min_eq_left (Nat.le_of_lt h2)
theorem fI0 : fI 0 = 0 := by unfold fI; rw [Nat.zero_mul, RG_zero]
theorem fI20 : fI 1048576 = 1233125376 := by decide +kernel
theorem eight32 : single.read 1090519040 = .number false 8388608 (((3 : Nat) : Int) - 23) := by decide
theorem fourth32 : single.read 1082130432 = .number false 8388608 (((2 : Nat) : Int) - 23) := by decide
theorem twice32 : single.read 1073741824 = .number false 8388608 (((1 : Nat) : Int) - 23) := by decide
theorem top_size : sizeOf single 1233125376 = 1048576 * 2 ^ 149 := by rw [← fI20]; exact fI_size _ (by omega)
theorem top_200 {r : Nat} (h : r ≤ 1233125376) : sizeOf single r ≤ 2 ^ 200 := by
  have h1 := size_le h
  rw [top_size] at h1
  have : (1048576 : Nat) * 2 ^ 149 ≤ 2 ^ 200 := by decide +kernel
  omega
/-- the half of the first -/
theorem half_fin (x : Nat) (h : x ≤ 1233125376) : ∃ y, single.div x 1073741824 = some y ∧ y ≤ x := by
  have h1 := div_pow 1073741824 1 twice32 false x (by omega)
  have h2 : RG 23 1 (sizeOf single x) ≤ x := RG_le (by rw [Nat.pow_one]; omega) (by omega)
  rw [word_false, word_false, Nat.min_eq_left (by omega)] at h1
  exact ⟨_, h1, h2⟩
end Fl
end Go.Proofs.Ytpimdiliibokbaa
