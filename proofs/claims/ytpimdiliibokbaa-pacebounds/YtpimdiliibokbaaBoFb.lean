/- Plain: what the nearest narrow number of a wide one is, by a quotient rounded half to even. -/
import Derived.Test.YtpimdiliibokbaaBoFa
namespace Go.Proofs.Ytpimdiliibokbaa
namespace Fl
open Ieee

/-- Half to even. -/
def half (n d : Nat) : Nat := n / 2 ^ d + (if 2 ^ d < 2 * (n % 2 ^ d) ∨ (2 ^ d = 2 * (n % 2 ^ d) ∧ n / 2 ^ d % 2 = 1) then 1 else 0)

theorem cut_half (neg : Bool) (n d : Nat) : Toward.even.cut neg n d = half n d := by
  have key : ∀ g, (n / g + (decide (g < 2 * (n % g)) || (g == 2 * (n % g) && n / g % 2 == 1)).toNat) = n / g + (if g < 2 * (n % g) ∨ (g = 2 * (n % g) ∧ n / g % 2 = 1) then 1 else 0) := by
    intro g
    congr 1
    by_cases h1 : g < 2 * (n % g)
    · simp [h1]
    · by_cases h2 : g = 2 * (n % g)
      · by_cases h3 : n / g % 2 = 1
        · rw [if_pos (Or.inr ⟨h2, h3⟩)]
          have : (g == 2 * (n % g)) = true := by rw [beq_iff_eq]; exact h2
          rw [this, h3]; simp
        · rw [if_neg (by omega)]
          have : (n / g % 2 == 1) = false := by rw [beq_eq_false_iff_ne]; exact h3
          rw [this]; simp [h1]
      · rw [if_neg (by omega)]
        have : (g == 2 * (n % g)) = false := by rw [beq_eq_false_iff_ne]; exact h2
        rw [this]; simp [h1]
  show n / (1 <<< min d (n.log2 + 2)) + _ = _
  by_cases hd : d ≤ n.log2 + 2
  · rw [Nat.min_eq_left hd, Nat.one_shiftLeft]
    exact key (2 ^ d)
  · rw [Nat.min_eq_right (by omega), Nat.one_shiftLeft]
    refine (key _).trans ?_
    have h1 : n < 2 ^ (n.log2 + 1) := Nat.lt_log2_self
    have h2 : 2 ^ (n.log2 + 2) = 2 * 2 ^ (n.log2 + 1) := by rw [← Nat.pow_succ']
    have h3 : 2 ^ (n.log2 + 2) ≤ 2 ^ d := Nat.pow_le_pow_right (by omega) (by omega)
    unfold half
    generalize 2 ^ (n.log2 + 1) = a at *
    generalize 2 ^ (n.log2 + 2) = b at *
    generalize 2 ^ d = c at *
    rw [Nat.div_eq_of_lt (by omega : n < b), Nat.div_eq_of_lt (by omega : n < c), Nat.mod_eq_of_lt (by omega : n < b), Nat.mod_eq_of_lt (by omega : n < c), if_neg (by omega), if_neg (by omega)]

/-- How far the last digit that is kept lies above the last one that is there. -/
def dropOf (m : Nat) (p : Int) : Nat := (lastOf single m p - p).toNat
/-- The rung of the nearest narrow number, were there no end. -/
def rung32 (m : Nat) (p : Int) : Nat := (lastOf single m p + 149).toNat * 8388608 + half m (dropOf m p)

theorem nearest32 (neg : Bool) (m : Nat) (p : Int) (hm : m ≠ 0) (h : p ≤ lastOf single m p) :
    single.nearest neg m p = single.word neg (min (rung32 m p) 2139095040) := by
  unfold Format.nearest
  rw [if_neg hm]
  show single.word neg (min ((lastOf single m p - single.leastPlace).toNat * single.binade + Toward.even.cut neg (m <<< (p - lastOf single m p).toNat) (lastOf single m p - p).toNat) single.infRung) = _
  have e : (p - lastOf single m p).toNat = 0 := by omega
  rw [e, Nat.shiftLeft_zero, cut_half, lp32, bi32, inf32]
  unfold rung32 dropOf
  congr 4

theorem last32 (m : Nat) (p : Int) : lastOf single m p = max (p + (m.log2 : Int) - 23) (-149) := by
  unfold lastOf; rw [fb32, lp32]; rfl

/-- A wide number's parts: its last digit lies well below. -/
theorem drop_parts (r : Nat) (h0 : r ≠ 0) (hr : r < 9218868437227405312) : (r < 4503599627370496 ∧ dropOf (magOf double r) (placeOf double r) = 925) ∨ (4503599627370496 ≤ r ∧ (magOf double r).log2 = 52 ∧ (dropOf (magOf double r) (placeOf double r) : Int) = max 29 (-149 - placeOf double r) ∧ -1074 ≤ placeOf double r ∧ placeOf double r ≤ 971) := by
  unfold dropOf
  rw [last32]
  by_cases hb : r < 4503599627370496
  · left
    refine ⟨hb, ?_⟩
    have hp : placeOf double r = -1074 := by unfold placeOf; rw [if_pos (by rw [bi64]; exact hb), lp64]
    have hm : magOf double r = r := by unfold magOf; rw [if_pos (by rw [bi64]; exact hb)]
    have hl : r.log2 ≤ 51 := by
      have := (Nat.log2_lt h0).2 (Nat.lt_of_lt_of_eq hb (by decide : 4503599627370496 = 2 ^ 52)); omega
    rw [hp, hm]; omega
  · right
    have hge : double.binade ≤ r := by rw [bi64]; omega
    have hl : (magOf double r).log2 = 52 := by
      rw [magOf_full _ _ hge, log2_binade double _ (Nat.mod_lt _ (by rw [bi64]; omega)), fb64]
    have hp : placeOf double r = -1074 + ((r / 4503599627370496 - 1 : Nat) : Int) := by
      rw [placeOf_full _ _ hge, lp64, bi64]
    have hd : r / 4503599627370496 < 2047 := by
      have : (9218868437227405312 : Nat) = 2047 * 4503599627370496 := by decide
      exact Nat.div_lt_of_lt_mul (by omega)
    rw [hl, hp]
    refine ⟨by omega, rfl, ?_, by omega, by omega⟩
    omega

theorem drop_le (r : Nat) (h0 : r ≠ 0) (hr : r < 9218868437227405312) : placeOf double r ≤ lastOf single (magOf double r) (placeOf double r) ∧ 29 ≤ dropOf (magOf double r) (placeOf double r) := by
  rcases drop_parts r h0 hr with ⟨_, h⟩ | ⟨_, _, h, _⟩
  · unfold dropOf at h ⊢; omega
  · unfold dropOf at h ⊢; omega

theorem half_lt (n d : Nat) (a : Nat) (h : n < a * 2 ^ d) : half n d ≤ a := by
  have h1 : n / 2 ^ d < a := Nat.div_lt_of_lt_mul (by rw [Nat.mul_comm]; exact h)
  unfold half; split <;> omega
theorem half_ge (n d : Nat) (a : Nat) (h : a * 2 ^ d ≤ n) : a ≤ half n d := by
  have h1 : a ≤ n / 2 ^ d := (Nat.le_div_iff_mul_le (Nat.two_pow_pos d)).2 h
  unfold half; omega

/-- Where the range ends. -/
theorem rung_end (r : Nat) (h0 : r ≠ 0) (hr : r < 9218868437227405312) : rung32 (magOf double r) (placeOf double r) < 2139095040 ↔ r < 5183643170835005440 := by
  have hdr := drop_parts r h0 hr
  rcases hdr with ⟨hb, hd⟩ | ⟨hb, hl, hd, hp1, hp2⟩
  · have hm : magOf double r = r := by unfold magOf; rw [if_pos (by rw [bi64]; exact hb)]
    have hla : lastOf single (magOf double r) (placeOf double r) = -149 := by
      have hp : placeOf double r = -1074 := by unfold placeOf; rw [if_pos (by rw [bi64]; exact hb), lp64]
      unfold dropOf at hd; omega
    have hh : half (magOf double r) (dropOf (magOf double r) (placeOf double r)) ≤ 1 := by
      refine half_lt _ _ 1 ?_
      have h52 : 2 ^ 52 ≤ 2 ^ dropOf (magOf double r) (placeOf double r) := Nat.pow_le_pow_right (by omega) (by omega)
      rw [hm] at h52 ⊢
      rw [Nat.one_mul]
      exact Nat.lt_of_lt_of_le hb h52
    unfold rung32
    rw [hla]
    generalize half (magOf double r) (dropOf (magOf double r) (placeOf double r)) = z at *
    omega
  · have hge : double.binade ≤ r := by rw [bi64]; exact hb
    have hm : magOf double r = 4503599627370496 + r % 4503599627370496 := by rw [magOf_full _ _ hge, bi64]
    have hp : placeOf double r = -1074 + ((r / 4503599627370496 - 1 : Nat) : Int) := by rw [placeOf_full _ _ hge, lp64, bi64]
    have hdm := Nat.div_add_mod r 4503599627370496
    have hmod := Nat.mod_lt r (by omega : 0 < 4503599627370496)
    have hE : 1 ≤ r / 4503599627370496 := by omega
    generalize r / 4503599627370496 = E at *
    generalize r % 4503599627370496 = F at *
    by_cases h29 : 897 ≤ E
    · have hd29 : dropOf (magOf double r) (placeOf double r) = 29 := by omega
      have hla : lastOf single (magOf double r) (placeOf double r) = (E : Int) - 1046 := by unfold dropOf at hd29; omega
      have hh1 : half (magOf double r) 29 ≤ 16777216 := half_lt _ _ _ (by rw [hm, show (2 : Nat) ^ 29 = 536870912 from by decide]; omega)
      have hh2 : 8388608 ≤ half (magOf double r) 29 := half_ge _ _ _ (by rw [hm, show (2 : Nat) ^ 29 = 536870912 from by decide]; omega)
      unfold rung32
      rw [hd29, hla]
      by_cases hE1 : E ≤ 1149
      · constructor
        · intro _; omega
        · intro _; omega
      · by_cases hE2 : E = 1150
        · subst hE2
          have hf : half (magOf double r) 29 ≤ 16777215 ↔ F < 4503599358935040 := by
            unfold half
            rw [hm, show (2 : Nat) ^ 29 = 536870912 from by decide]
            split <;> omega
          constructor
          · intro h; have := hf.1 (by omega); omega
          · intro h; have := hf.2 (by omega); omega
        · constructor
          · intro h; omega
          · intro h; omega
    · have hla : lastOf single (magOf double r) (placeOf double r) = -149 := by unfold dropOf at hd; omega
      have hh1 : half (magOf double r) (dropOf (magOf double r) (placeOf double r)) ≤ 16777216 := half_lt _ _ _ (by
        have : 2 ^ 29 ≤ 2 ^ dropOf (magOf double r) (placeOf double r) := Nat.pow_le_pow_right (by omega) (by omega)
        rw [show (2 : Nat) ^ 29 = 536870912 from by decide] at this
        generalize 2 ^ dropOf (magOf double r) (placeOf double r) = z at *
        rw [hm]; omega)
      unfold rung32
      rw [hla]
      generalize half (magOf double r) (dropOf (magOf double r) (placeOf double r)) = z at *
      omega

theorem word_inj (f : Format) (neg : Bool) (r r' : Nat) (h : f.word neg r = f.word neg r') : r = r' := by
  unfold Format.word at h
  cases neg
  · exact h
  · exact Nat.add_left_cancel h

theorem log2_div_exact (m d : Nat) (hm : m ≠ 0) (h : m % 2 ^ d = 0) : m = m / 2 ^ d * 2 ^ d ∧ m / 2 ^ d ≠ 0 ∧ m.log2 = (m / 2 ^ d).log2 + d := by
  have e := Nat.div_add_mod m (2 ^ d)
  rw [h, Nat.add_zero, Nat.mul_comm] at e
  have h0 : m / 2 ^ d ≠ 0 := by
    intro hz; rw [hz, Nat.zero_mul] at e; exact hm e.symm
  refine ⟨e.symm, h0, ?_⟩
  have := log2_mul_pow (m / 2 ^ d) d h0
  rw [e] at this
  exact this

/-- The nearest narrow number, widened again, is the wide one just if nothing was dropped. -/
theorem same_iff (neg : Bool) (r : Nat) (h0 : r ≠ 0) (hr : r < 9218868437227405312) :
    double.nearest neg (magOf single (rung32 (magOf double r) (placeOf double r))) (placeOf single (rung32 (magOf double r) (placeOf double r))) = double.word neg r ↔ magOf double r % 2 ^ dropOf (magOf double r) (placeOf double r) = 0 := by
  have hnp := nearest_parts double neg r (by rw [inf64]; exact hr)
  have hm0 : magOf double r ≠ 0 := fun e => h0 ((magOf_zero double r).1 e)
  obtain ⟨hpl, hd29⟩ := drop_le r h0 hr
  have hmlt := magOf_lt double r
  rw [fb64] at hmlt
  constructor
  · intro he
    generalize hg : rung32 (magOf double r) (placeOf double r) = g at *
    have hM0 : magOf single g ≠ 0 := by
      intro hz
      rw [hz, nearest_zero] at he
      exact h0 (word_inj _ _ _ _ he).symm
    have hM := magOf_lt single g
    have hM53 : magOf single g < 2 ^ (double.fractionBits + 1) := Nat.lt_trans hM (by decide)
    have hP := placeOf_ge single g
    have hP64 : double.leastPlace ≤ placeOf single g := by rw [lp32] at hP; rw [lp64]; omega
    rw [nearest_exact double neg _ _ hM0 hM53 hP64] at he
    have he2 := word_inj _ _ _ _ he
    rw [inf64] at he2
    have he3 : rungOf double (magOf single g) (placeOf single g) = r := by
      rcases Nat.le_total (rungOf double (magOf single g) (placeOf single g)) 9218868437227405312 with hq | hq
      · rw [Nat.min_eq_left hq] at he2; exact he2
      · rw [Nat.min_eq_right hq] at he2; exact absurd he2 (Nat.ne_of_gt hr)
    obtain ⟨q1, q2⟩ := parts_rungOf double (magOf single g) (placeOf single g) hM0 hM53 hP64
    rw [he3] at q1 q2
    have hll := lastOf_le double _ _ hM53 hP64
    have hls := lastOf_le single _ _ hM hP
    have hdr : dropOf (magOf double r) (placeOf double r) ≤ (placeOf single g - lastOf double (magOf single g) (placeOf single g)).toNat := by
      unfold dropOf
      rw [last32] at hls ⊢
      rw [q1, q2, log2_mul_pow _ _ hM0]
      omega
    rw [q1]
    rw [q1] at hdr
    generalize dropOf (magOf single g * 2 ^ (placeOf single g - lastOf double (magOf single g) (placeOf single g)).toNat) (placeOf double r) = d at *
    generalize (placeOf single g - lastOf double (magOf single g) (placeOf single g)).toNat = k at *
    obtain ⟨j, rfl⟩ : ∃ j, k = j + d := ⟨k - d, by omega⟩
    rw [Nat.pow_add, ← Nat.mul_assoc, Nat.mul_mod_left]
  · intro hz
    obtain ⟨e1, e2, e3⟩ := log2_div_exact _ _ hm0 hz
    have hhalf : half (magOf double r) (dropOf (magOf double r) (placeOf double r)) = magOf double r / 2 ^ dropOf (magOf double r) (placeOf double r) := by
      have h2 := Nat.two_pow_pos (dropOf (magOf double r) (placeOf double r))
      unfold half; rw [hz]
      generalize 2 ^ dropOf (magOf double r) (placeOf double r) = z at *
      rw [if_neg (by omega), Nat.add_zero]
    have hrd : rung32 (magOf double r) (placeOf double r) = (lastOf single (magOf double r) (placeOf double r) + 149).toNat * 8388608 + magOf double r / 2 ^ dropOf (magOf double r) (placeOf double r) := by
      unfold rung32; rw [hhalf]
    have hlast : lastOf single (magOf double r) (placeOf double r) = placeOf double r + (dropOf (magOf double r) (placeOf double r) : Int) := by
      unfold dropOf; omega
    have hl149 : -149 ≤ lastOf single (magOf double r) (placeOf double r) := by rw [last32]; omega
    have hlK : lastOf single (magOf double r / 2 ^ dropOf (magOf double r) (placeOf double r)) (lastOf single (magOf double r) (placeOf double r)) = lastOf single (magOf double r) (placeOf double r) := by
      have h1 := last32 (magOf double r) (placeOf double r)
      have h2 := last32 (magOf double r / 2 ^ dropOf (magOf double r) (placeOf double r)) (lastOf single (magOf double r) (placeOf double r))
      generalize magOf double r / 2 ^ dropOf (magOf double r) (placeOf double r) = K at *
      omega
    have hKlt : magOf double r / 2 ^ dropOf (magOf double r) (placeOf double r) < 2 ^ (single.fractionBits + 1) := by
      have h1 := last32 (magOf double r) (placeOf double r)
      have h3 : (magOf double r / 2 ^ dropOf (magOf double r) (placeOf double r)).log2 < 24 := by
        generalize magOf double r / 2 ^ dropOf (magOf double r) (placeOf double r) = K at *
        omega
      have := (Nat.log2_lt e2).1 h3
      rw [fb32]; exact this
    have hrg : rungOf single (magOf double r / 2 ^ dropOf (magOf double r) (placeOf double r)) (lastOf single (magOf double r) (placeOf double r)) = rung32 (magOf double r) (placeOf double r) := by
      unfold rungOf
      rw [hlK, hrd, Int.sub_self, Int.toNat_zero, Nat.pow_zero, Nat.mul_one, lp32, bi32]
      congr 3
    obtain ⟨q1, q2⟩ := parts_rungOf single _ _ e2 hKlt (by rw [lp32]; exact hl149)
    rw [hrg, hlK, Int.sub_self, Int.toNat_zero, Nat.pow_zero, Nat.mul_one] at q1
    rw [hrg, hlK] at q2
    rw [q1, q2, hlast, ← nearest_shift double neg _ _ _ e2, ← e1, hnp]

end Fl
end Go.Proofs.Ytpimdiliibokbaa
