/- Plain: of a finite number, its nearest narrow one and the neighbours of that. -/
import Derived.Test.YtbbikogpfpghbaaDoorNe
import Derived.Test.YtbbikogpfpghbaaDoorNf
namespace Go.Proofs.YtbbikogpfpghbaaDoor
open Ieee
namespace Fl

/-- The narrow unit in wide ones. -/
def Kp (n : Nat) : Nat := 2 ^ n
theorem Kp_add (e n : Nat) : 2 ^ (e + n) = 2 ^ e * Kp n := Nat.pow_add 2 e n
def K925 : Nat := Kp 925
theorem K_pow (e : Nat) : 2 ^ (e + 925) = 2 ^ e * K925 := Kp_add e 925

theorem pow_pred (e : Nat) (h : 0 < e) : 2 ^ e = 2 * 2 ^ (e - 1) := by
  obtain ⟨k, rfl⟩ : ∃ k, e = k + 1 := ⟨e - 1, by omega⟩
  rw [Nat.add_sub_cancel, Nat.pow_succ']

theorem size_rung (u M : Nat) (hM : M ≤ 16777216) (hl : M < 8388608 → u = 0) : sizeOf single (u * 8388608 + M) = M * 2 ^ u := by
  unfold sizeOf
  rw [bi32]
  by_cases h1 : M < 8388608
  · have := hl h1
    subst this
    rw [if_pos (by omega)]; omega
  · rw [if_neg (by omega)]
    by_cases h2 : M < 16777216
    · have e1 : (u * 8388608 + M) / 8388608 - 1 = u := by omega
      have e2 : 8388608 + (u * 8388608 + M) % 8388608 = M := by omega
      rw [e1, e2]
    · have e0 : M = 16777216 := by omega
      subst e0
      have e1 : (u * 8388608 + 16777216) / 8388608 - 1 = u + 1 := by omega
      have e2 : 8388608 + (u * 8388608 + 16777216) % 8388608 = 8388608 := by omega
      rw [e1, e2, Nat.pow_succ]; omega

theorem half_dist (n d : Nat) (U2 : Nat) (hU : 2 ^ d = 2 * U2) : n ≤ half n d * 2 ^ d + U2 ∧ half n d * 2 ^ d ≤ n + U2 ∧ (half n d % 2 = 1 → n < half n d * 2 ^ d + U2 ∧ half n d * 2 ^ d < n + U2) := by
  have h1 := Nat.div_add_mod n (2 ^ d)
  have h2 := Nat.mod_lt n (Nat.two_pow_pos d)
  unfold half
  generalize n / 2 ^ d = q at *
  generalize n % 2 ^ d = r at *
  generalize 2 ^ d = U at *
  subst hU
  rw [Nat.mul_comm] at h1
  by_cases hc : 2 * U2 < 2 * r ∨ (2 * U2 = 2 * r ∧ q % 2 = 1)
  · rw [if_pos hc, Nat.add_mul, Nat.one_mul]
    generalize q * (2 * U2) = y at *
    omega
  · rw [if_neg hc, Nat.add_zero]
    generalize q * (2 * U2) = y at *
    omega

/-- A distance. -/
def dist (a b : Nat) : Nat := (a - b) + (b - a)

/-- The rung of the nearest narrow number, and its neighbours' sizes, in the wide ones' unit. -/
theorem nb_sizes (X : Nat) (hX : X ≠ 0) (g : Nat) (hg : g = RG 23 925 X) : ∃ M D U2 : Nat, D = X.log2 - (23 + 925) + 925 ∧ 2 ^ D = 2 * U2 ∧ 925 ≤ D ∧ (D - 925) * 8388608 + M = g ∧ M = half X D ∧ M ≤ 16777216 ∧
    sizeOf single g * K925 = M * 2 ^ D ∧ (M + 1) * 2 ^ D ≤ sizeOf single (g + 1) * K925 ∧ (1 ≤ g → sizeOf single (g - 1) * K925 + 2 ^ D = M * 2 ^ D ∨ (M % 2 = 0 ∧ M * 2 ^ D ≤ X ∧ sizeOf single (g - 1) * K925 ≤ M * 2 ^ D)) := by
  have hlo := Nat.log2_self_le hX
  have hhi := @Nat.lt_log2_self X
  generalize hd : X.log2 - (23 + 925) = e
  have hg2 : g = e * 8388608 + half X (e + 925) := by rw [hg]; unfold RG; rw [hd]
  have hM : half X (e + 925) ≤ 16777216 := by
    apply half_lt
    rw [show (16777216 : Nat) = 2 ^ 24 from by decide, ← Nat.pow_add]
    exact Nat.lt_of_lt_of_le hhi (Nat.pow_le_pow_right (by omega) (by omega))
  have hXlow : 0 < e → 8388608 * 2 ^ (e + 925) ≤ X := by
    intro he
    rw [show (8388608 : Nat) = 2 ^ 23 from by decide, ← Nat.pow_add]
    exact Nat.le_trans (Nat.pow_le_pow_right (by omega) (by omega)) hlo
  have hMlow : half X (e + 925) < 8388608 → e = 0 := by
    intro hlt
    rcases Nat.eq_zero_or_pos e with h | h
    · exact h
    · have := half_ge X (e + 925) 8388608 (hXlow h); omega
  have hpow := K_pow e
  have hU : 2 ^ (e + 925) = 2 * 2 ^ (e + 924) := by rw [← Nat.pow_succ']
  generalize hMe : half X (e + 925) = M at *
  refine ⟨M, e + 925, 2 ^ (e + 924), rfl, hU, by omega, by rw [hg2]; omega, hMe.symm, hM, ?_, ?_, ?_⟩
  · rw [hg2, size_rung e M hM hMlow, hpow, Nat.mul_assoc]
  · by_cases h24 : M = 16777216
    · have e1 : g + 1 = (e + 1) * 8388608 + 8388609 := by omega
      rw [e1, size_rung (e + 1) 8388609 (by omega) (by omega), hpow, Nat.pow_succ, h24]
      have : (16777216 + 1) * (2 ^ e * K925) ≤ 16777218 * (2 ^ e * K925) := Nat.mul_le_mul_right _ (by omega)
      refine Nat.le_trans this (Nat.le_of_eq ?_)
      rw [show (16777218 : Nat) = 8388609 * 2 from by decide]
      simp only [Nat.mul_assoc, Nat.mul_comm, Nat.mul_left_comm]
    · have e1 : g + 1 = e * 8388608 + (M + 1) := by omega
      rw [e1, size_rung e (M + 1) (by omega) (fun h => hMlow (by omega)), hpow, Nat.mul_assoc]
      exact Nat.le_refl _
  · intro hg1
    have hM1 : 1 ≤ M := by
      rcases Nat.eq_zero_or_pos M with h | h
      · have := hMlow (by omega); omega
      · exact h
    by_cases hs : M = 8388608 ∧ 0 < e
    · right
      obtain ⟨hs1, hs2⟩ := hs
      refine ⟨by omega, by rw [hs1]; exact hXlow hs2, ?_⟩
      have e1 : g - 1 = (e - 1) * 8388608 + 16777215 := by omega
      rw [e1, size_rung (e - 1) 16777215 (by omega) (by omega), hpow, hs1]
      rw [pow_pred e hs2]
      rw [Nat.mul_assoc, Nat.mul_assoc 2]
      generalize 2 ^ (e - 1) * K925 = y
      omega
    · left
      have e1 : g - 1 = e * 8388608 + (M - 1) := by omega
      rw [e1, size_rung e (M - 1) (by omega) (fun h => by omega), hpow, Nat.mul_assoc]
      obtain ⟨k, rfl⟩ : ∃ k, M = k + 1 := ⟨M - 1, by omega⟩
      rw [Nat.add_sub_cancel, Nat.add_mul, Nat.one_mul]

/-- At least as near as its neighbours; nearer, if its last bit is 1. -/
theorem nb_near (X g : Nat) (hX : X ≠ 0) (hg : g = RG 23 925 X) (g' : Nat) (hg' : g' = g + 1 ∨ g' + 1 = g) :
    dist X (sizeOf single g * K925) ≤ dist X (sizeOf single g' * K925) ∧
    (g % 2 = 1 → ∃ D U2, D = X.log2 - (23 + 925) + 925 ∧ 2 ^ D = 2 * U2 ∧ dist X (sizeOf single g * K925) < U2 ∧ U2 ≤ dist X (sizeOf single g' * K925) ∧ U2 ≤ X ∧ 925 ≤ D ∧ sizeOf single g * K925 = half X D * 2 ^ D ∧ (D - 925) * 8388608 ≤ g) := by
  obtain ⟨M, D, U2, hDe, hU, hD, hgM, hMh, hM, hF, hup, hdn⟩ := nb_sizes X hX g hg
  obtain ⟨d1, d2, d3⟩ := half_dist X D U2 hU
  rw [← hMh] at d1 d2 d3
  have hupE : (M + 1) * 2 ^ D = M * 2 ^ D + 2 ^ D := by rw [Nat.add_mul, Nat.one_mul]
  rw [hupE] at hup
  have hMX : 1 ≤ M → U2 ≤ X := by
    intro h
    have : 1 * 2 ^ D ≤ M * 2 ^ D := Nat.mul_le_mul_right _ h
    generalize M * 2 ^ D = y at *
    generalize 2 ^ D = z at *
    omega
  have hpar : g % 2 = M % 2 := by omega
  rw [hF]
  unfold dist
  rcases hg' with rfl | hg'
  · generalize sizeOf single (g + 1) * K925 = H at *
    have k1 : (X - M * 2 ^ D) + (M * 2 ^ D - X) ≤ (X - H) + (H - X) := by
      generalize M * 2 ^ D = A at *
      generalize 2 ^ D = Z at *
      omega
    have k2 : M % 2 = 1 → (X - M * 2 ^ D) + (M * 2 ^ D - X) < U2 ∧ U2 ≤ (X - H) + (H - X) := by
      intro ho
      have := d3 ho
      generalize M * 2 ^ D = A at *
      generalize 2 ^ D = Z at *
      omega
    exact ⟨k1, fun ho => ⟨D, U2, hDe, hU, (k2 (by omega)).1, (k2 (by omega)).2, hMX (by omega), hD, by rw [← hMh], by omega⟩⟩
  · have e : g' = g - 1 := by omega
    subst e
    have hdn := hdn (by omega)
    generalize sizeOf single (g - 1) * K925 = H at *
    have k1 : (X - M * 2 ^ D) + (M * 2 ^ D - X) ≤ (X - H) + (H - X) := by
      generalize M * 2 ^ D = A at *
      generalize 2 ^ D = Z at *
      omega
    have k2 : M % 2 = 1 → (X - M * 2 ^ D) + (M * 2 ^ D - X) < U2 ∧ U2 ≤ (X - H) + (H - X) := by
      intro ho
      have := d3 ho
      generalize M * 2 ^ D = A at *
      generalize 2 ^ D = Z at *
      omega
    exact ⟨k1, fun ho => ⟨D, U2, hDe, hU, (k2 (by omega)).1, (k2 (by omega)).2, hMX (by omega), hD, by rw [← hMh], by omega⟩⟩

theorem rung_of_size (k j : Nat) (hk : k < 9007199254740992) (hj : j ≤ 2045) : ∃ a, a < 9218868437227405312 ∧ sizeOf double a = k * 2 ^ j := by
  by_cases h0 : k = 0
  · subst h0
    refine ⟨0, by omega, ?_⟩
    unfold sizeOf; rw [bi64, if_pos (by omega)]; omega
  · have hk53 : k < 2 ^ (double.fractionBits + 1) := Nat.lt_of_lt_of_eq hk (by decide)
    have hlp : double.leastPlace ≤ (j : Int) - 1074 := by rw [lp64]; omega
    have hlog : k.log2 ≤ 52 := log2_le double k hk53
    have hrg := rungOf_lt double k ((j : Int) - 1074) h0 hk53 hlp 2046 (by rw [fb64, lp64]; omega) (by omega)
    rw [bi64] at hrg
    obtain ⟨q1, q2⟩ := parts_rungOf double k ((j : Int) - 1074) h0 hk53 hlp
    have hll := lastOf_le double k ((j : Int) - 1074) hk53 hlp
    have hge : -1074 ≤ lastOf double k ((j : Int) - 1074) := by unfold lastOf; rw [lp64]; omega
    refine ⟨rungOf double k ((j : Int) - 1074), by omega, ?_⟩
    rw [sizeOf_parts, q1, q2, lp64, Nat.mul_assoc, ← Nat.pow_add]
    congr 2
    omega

/-- Where the nearest one's last bit is 1, its distance has fewer digits than a wide number may have. -/
theorem dist_digits (m p D : Nat) (hm : m < 9007199254740992) (hpD : p ≤ D) (U2 : Nat) (hU : 2 ^ D = 2 * U2) (hX : U2 ≤ m * 2 ^ p) (hd : dist (m * 2 ^ p) (half (m * 2 ^ p) D * 2 ^ D) < U2) :
    ∃ k, k < 9007199254740992 ∧ dist (m * 2 ^ p) (half (m * 2 ^ p) D * 2 ^ D) = k * 2 ^ p := by
  obtain ⟨c, rfl⟩ : ∃ c, D = p + c := ⟨D - p, by omega⟩
  have hp := Nat.two_pow_pos p
  generalize half (m * 2 ^ p) (p + c) = M at *
  have e1 : M * 2 ^ (p + c) = (M * 2 ^ c) * 2 ^ p := by rw [Nat.pow_add, Nat.mul_assoc, Nat.mul_comm (2 ^ p)]
  rw [e1] at hd ⊢
  have e2 : dist (m * 2 ^ p) (M * 2 ^ c * 2 ^ p) = dist m (M * 2 ^ c) * 2 ^ p := by
    unfold dist
    rw [← Nat.sub_mul, ← Nat.sub_mul, ← Nat.add_mul]
  refine ⟨dist m (M * 2 ^ c), ?_, e2⟩
  rw [e2] at hd
  have h3 : dist m (M * 2 ^ c) * 2 ^ p < m * 2 ^ p := Nat.lt_of_lt_of_le hd hX
  have := Nat.lt_of_mul_lt_mul_right h3
  omega

/-- The two distances, as wide numbers: not below; apart, where the last bit is 1. -/
theorem nb_rungs (r g g' : Nat) (h0 : r ≠ 0) (hr : r < 9218868437227405312) (hg : g = RG 23 925 (sizeOf double r)) (hgi : g < 2139095040) (hg' : g' = g + 1 ∨ g' + 1 = g) :
    RG 52 0 (dist (sizeOf double r) (sizeOf single g * K925)) ≤ RG 52 0 (dist (sizeOf double r) (sizeOf single g' * K925)) ∧
    (g % 2 = 1 → RG 52 0 (dist (sizeOf double r) (sizeOf single g * K925)) < RG 52 0 (dist (sizeOf double r) (sizeOf single g' * K925))) ∧
    (g % 2 = 1 → RG 52 0 (dist (sizeOf double r) (sizeOf single g * K925)) < 9218868437227405312) := by
  have hX : sizeOf double r ≠ 0 := by
    have := sizeOf_lt double (show 0 < r by omega)
    omega
  obtain ⟨n1, n2⟩ := nb_near (sizeOf double r) g hX hg g' hg'
  refine ⟨RG_mono 52 0 _ _ n1, ?_⟩
  have key : g % 2 = 1 → RG 52 0 (dist (sizeOf double r) (sizeOf single g * K925)) < RG 52 0 (dist (sizeOf double r) (sizeOf single g' * K925)) ∧ RG 52 0 (dist (sizeOf double r) (sizeOf single g * K925)) < 9218868437227405312 := by
    intro ho
    obtain ⟨D, U2, hDe, hU, h1, h2, h3, hD, h4, h5⟩ := n2 ho
    have hm : magOf double r < 9007199254740992 := Nat.lt_of_lt_of_eq (magOf_lt double r) (by decide)
    have hp : placeOf double r ≤ 971 ∧ -1074 ≤ placeOf double r := by
      unfold placeOf; rw [bi64, lp64]; split <;> omega
    have hsz := sizeOf_parts double r
    rw [lp64] at hsz
    have hpl : (placeOf double r - -1074).toNat ≤ D := by
      rcases Nat.lt_or_ge D (placeOf double r - -1074).toNat with hlt | hge
      · exfalso
        have hge1 : 925 < (placeOf double r - -1074).toNat := by omega
        have hb : 4503599627370496 ≤ r := by
          rcases Nat.lt_or_ge r 4503599627370496 with hh | hh
          · have : placeOf double r = -1074 := by unfold placeOf; rw [if_pos (by rw [bi64]; exact hh), lp64]
            omega
          · exact hh
        have hm0 : magOf double r ≠ 0 := fun e => h0 ((magOf_zero double r).1 e)
        have hl52 : (magOf double r).log2 = 52 := by
          rw [magOf_full _ _ (by rw [bi64]; exact hb), log2_binade double _ (Nat.mod_lt _ (by rw [bi64]; omega)), fb64]
        have hlX := log2_mul_pow (magOf double r) (placeOf double r - -1074).toNat hm0
        rw [← hsz, hl52] at hlX
        omega
      · exact hge
    rw [h4, hsz] at h1 ⊢
    rw [hsz] at h3
    obtain ⟨k, hk, he⟩ := dist_digits (magOf double r) (placeOf double r - -1074).toNat D hm hpl U2 hU h3 h1
    rw [he] at h1 ⊢
    obtain ⟨a, ha, hsa⟩ := rung_of_size k (placeOf double r - -1074).toNat hk (by omega)
    obtain ⟨b, hb, hsb⟩ := rung_of_size 1 (D - 1) (by omega) (by omega)
    have hU2 : U2 = 1 * 2 ^ (D - 1) := by
      have := pow_pred D (by omega)
      omega
    rw [← hsa, RG_size a ha]
    rw [← hsa, hU2, ← hsb] at h1
    have hab : a < b := by
      rcases Nat.lt_or_ge a b with h | h
      · exact h
      · exfalso
        rcases Nat.eq_or_lt_of_le h with h | h
        · subst h; omega
        · have := sizeOf_lt double h; omega
    have hm2 := RG_mono 52 0 U2 _ h2
    rw [hU2, ← hsb, RG_size b hb] at hm2
    rw [hsz] at hm2
    exact ⟨Nat.lt_of_lt_of_le hab hm2, ha⟩
  exact ⟨fun ho => (key ho).1, fun ho => (key ho).2⟩

end Fl
end Go.Proofs.YtbbikogpfpghbaaDoor
